/- THE PROGRAM's functions, as the abstract machine's code (printed by wip/tools/code.py out of the translation). No condition. -/
import Derived.Test.YtlloeinlfhnegaaAm22
import Derived.Test.YtlloeinlfhnegaaProg
import Derived.KernelRfl
namespace Go.Proofs.Ytlloeinlfhnegaa
set_option maxRecDepth 100000
/- lockkeeper/lockkeeperlaw13.StoreExact -/
def ac3 : ACode := (.seq (.reg [⟨(some 3), 3, (.box 25 2 (.t 0)), none, []⟩,
    ⟨(some 4), 4, (.box 27 3 (.t 1)), none, []⟩,
    ⟨(some 6), 6, (.mv (.k (.c (.s (.pv (.bool false)))))), none, []⟩])
  (.seq (.seq (.reg [⟨(some 18), 18, (.load true 2 (.t 3)), none, []⟩,
    ⟨(some 19), 19, (.call 9 [(.t 18)]), none, [0]⟩,
    ⟨(some 20), 20, (.not (.t 19)), none, [1]⟩,
    ⟨(some 21), 21, (.mv (.t 20)), none, [2, 1]⟩,
    ⟨(some 22), 22, (.fld 2 (.t 4)), (some (21, false)), [3]⟩,
    ⟨(some 23), 23, (.load false 1 (.t 22)), (some (21, false)), [4, 3]⟩,
    ⟨(some 24), 24, (.slen (.t 23)), (some (21, false)), [5, 3]⟩,
    ⟨(some 25), 25, (.bin false .gtr (.t 24) (.k (.c (.s (.pv (.int .i64 100)))))), (some (21, false)), [6, 3]⟩,
    ⟨(some 26), 26, (.pick (.t 21) (.k (.c (.s (.pv (.bool true))))) (.t 25)), none, [3, 7]⟩])
  (.cond (.t 26) (.seq (.reg [⟨(some 27), 27, (.call 10 []), none, []⟩,
    ⟨(some 6), 6, (.mv (.t 27)), none, [0, 0, 0]⟩])
  .ret) .skip))
  (.seq (.reg [⟨(some 29), 29, (.load true 2 (.t 3)), none, []⟩,
    ⟨(some 30), 30, (.mv (.t 2)), none, []⟩,
    ⟨(some 31), 31, (.call 11 [(.t 29), (.t 30)]), none, [0, 1]⟩,
    ⟨(some 28), 28, (.mv (.t 31)), none, [2]⟩,
    ⟨(some 32), 32, (.ext 0 (.t 28)), none, [3]⟩,
    ⟨(some 33), 33, (.ext 1 (.t 28)), none, [3]⟩,
    ⟨(some 7), 7, (.mk 27 3 [[(.s (.pv (.int .i64 0))), (.s (.pv (.int .i64 0))), (.s (.pv (.string ⟨#[]⟩)))]]), none, []⟩,
    ⟨none, 147, (.store 3 (.t 7) (.t 32)), none, [6, 4, 2, 0, 1, 2, 3, 4, 6]⟩,
    ⟨(some 8), 8, (.mv (.t 33)), none, [5, 7, 0, 1, 2, 3, 4, 5, 6, 7]⟩])
  (.seq (.reg [⟨(some 35), 35, (.load true 2 (.t 3)), none, []⟩,
    ⟨(some 36), 36, (.mv (.t 2)), none, []⟩,
    ⟨(some 37), 37, (.call 12 [(.t 35), (.t 36)]), none, [0, 1]⟩,
    ⟨(some 34), 34, (.mv (.t 37)), none, [2]⟩,
    ⟨(some 38), 38, (.ext 0 (.t 34)), none, [3]⟩,
    ⟨(some 39), 39, (.ext 1 (.t 34)), none, [3]⟩,
    ⟨(some 9), 9, (.mk 27 3 [[(.s (.pv (.int .i64 0))), (.s (.pv (.int .i64 0))), (.s (.pv (.string ⟨#[]⟩)))]]), none, []⟩,
    ⟨none, 147, (.store 3 (.t 9) (.t 38)), none, [6, 4, 2, 0, 1, 2, 3, 4, 6]⟩,
    ⟨(some 10), 10, (.mv (.t 39)), none, [5, 7, 0, 1, 2, 3, 4, 5, 6, 7]⟩])
  (.seq (.seq (.reg [⟨(some 40), 40, (.load true 3 (.t 7)), none, []⟩,
    ⟨(some 41), 41, (.load true 3 (.t 9)), none, []⟩,
    ⟨(some 42), 42, (.eqs true 27 (.t 40) (.t 41)), none, [0, 1]⟩,
    ⟨(some 43), 43, (.mv (.t 42)), none, [2]⟩,
    ⟨(some 44), 44, (.mv (.t 8)), (some (43, false)), [3]⟩,
    ⟨(some 45), 45, (.mv (.t 10)), (some (43, false)), [3]⟩,
    ⟨(some 46), 46, (.bin false .neq (.t 44) (.t 45)), (some (43, false)), [4, 5, 3]⟩,
    ⟨(some 47), 47, (.pick (.t 43) (.k (.c (.s (.pv (.bool true))))) (.t 46)), none, [3, 6]⟩])
  (.cond (.t 47) (.seq (.reg [⟨(some 6), 6, (.mv (.k (.c (.s (.pv (.bool false)))))), none, []⟩])
  .ret) .skip))
  (.seq (.reg [⟨(some 48), 48, (.load true 2 (.t 3)), none, []⟩,
    ⟨(some 49), 49, (.load true 3 (.t 4)), none, []⟩,
    ⟨(some 50), 50, (.call 13 [(.t 48), (.t 49)]), none, [0, 1]⟩,
    ⟨(some 11), 11, (.mv (.t 50)), none, [2, 2, 0, 1, 2]⟩])
  (.seq (.seq (.reg [⟨(some 51), 51, (.load true 2 (.t 3)), none, []⟩,
    ⟨(some 52), 52, (.load true 3 (.t 4)), none, []⟩,
    ⟨(some 53), 53, (.call 16 [(.t 51), (.t 52)]), none, [0, 1]⟩,
    ⟨(some 54), 54, (.call 15 [(.t 53)]), none, [2, 2]⟩,
    ⟨(some 55), 55, (.mv (.t 11)), none, []⟩,
    ⟨(some 56), 56, (.call 14 [(.t 54), (.t 55)]), none, [3, 4, 3]⟩,
    ⟨(some 57), 57, (.not (.t 56)), none, [5]⟩])
  (.cond (.t 57) (.seq (.reg [⟨(some 6), 6, (.mv (.k (.c (.s (.pv (.bool false)))))), none, []⟩])
  .ret) .skip))
  (.seq (.reg [⟨(some 59), 59, (.load true 2 (.t 3)), none, []⟩,
    ⟨(some 60), 60, (.load true 3 (.t 4)), none, []⟩,
    ⟨(some 61), 61, (.call 17 [(.t 59), (.t 60)]), none, [0, 1]⟩,
    ⟨(some 58), 58, (.mv (.t 61)), none, [2]⟩,
    ⟨(some 62), 62, (.ext 0 (.t 58)), none, [3]⟩,
    ⟨(some 63), 63, (.ext 1 (.t 58)), none, [3]⟩,
    ⟨(some 12), 12, (.mk 25 2 [[.zc, .zc]]), none, []⟩,
    ⟨none, 147, (.store 2 (.t 12) (.t 62)), none, [6, 4, 2, 0, 1, 2, 3, 4, 6]⟩,
    ⟨(some 13), 13, (.mv (.t 63)), none, [5, 7, 0, 1, 2, 3, 4, 5, 6, 7]⟩])
  (.seq (.reg [⟨(some 64), 64, (.load true 2 (.t 3)), none, []⟩,
    ⟨(some 65), 65, (.call 18 [(.t 64)]), none, [0]⟩,
    ⟨(some 66), 66, (.mv (.t 65)), none, [1, 1]⟩,
    ⟨(some 67), 67, (.load true 3 (.t 4)), (some (66, true)), [2]⟩,
    ⟨(some 68), 68, (.call 19 [(.t 67)]), (some (66, true)), [3, 2, 2]⟩,
    ⟨(some 69), 69, (.pick (.t 66) (.t 68) (.k (.c (.s (.pv (.bool false)))))), none, [2, 4]⟩,
    ⟨(some 14), 14, (.mv (.t 69)), none, [5, 4, 0, 1, 2, 3, 4, 5]⟩])
  (.seq (.seq (.draw [⟨(some 70), 70, (.mv (.t 14)), none, []⟩,
    ⟨(some 71), 71, (.mv (.t 70)), none, [0]⟩,
    ⟨(some 72), 72, (.mv (.t 13)), (some (71, true)), [1]⟩,
    ⟨(some 73), 73, (.bin false .neq (.t 72) (.k (.c (.s (.pv (.int .i64 0)))))), (some (71, true)), [2, 1]⟩,
    ⟨(some 74), 74, (.mv (.t 73)), (some (71, true)), [3, 1, 1]⟩,
    ⟨(some 75), 75, (.load true 2 (.t 12)), (some (74, false)), [4]⟩,
    ⟨(some 76), 76, (.load true 2 (.t 3)), (some (74, false)), [4]⟩,
    ⟨(some 77), 77, (.mv (.t 11)), (some (74, false)), [4]⟩,
    ⟨(some 78), 78, (.call 21 [(.t 76), (.t 77), (.k (.c (.s (.pv (.int .i64 99)))))]), (some (74, false)), [6, 7, 4, 4]⟩,
    ⟨(some 79), 79, (.call 20 [(.t 75), (.t 78)]), (some (74, false)), [5, 8, 8, 4]⟩,
    ⟨(some 80), 80, (.not (.t 79)), (some (74, false)), [9, 4]⟩,
    ⟨(some 81), 81, (.pick (.t 74) (.k (.c (.s (.pv (.bool true))))) (.t 80)), (some (71, true)), [4, 10, 1]⟩,
    ⟨(some 82), 82, (.pick (.t 71) (.t 81) (.k (.c (.s (.pv (.bool false)))))), none, [1, 11]⟩,
    ⟨(some 83), 83, (.mv (.t 82)), none, [12, 9]⟩,
    ⟨(some 84), 84, (.mv (.t 14)), (some (83, false)), [13]⟩,
    ⟨(some 85), 85, (.not (.t 84)), (some (83, false)), [14, 13]⟩,
    ⟨(some 86), 86, (.mv (.t 85)), (some (83, false)), [15, 13, 13]⟩,
    ⟨(some 87), 87, (.mv (.t 13)), (some (86, true)), [16]⟩,
    ⟨(some 88), 88, (.bin false .neq (.t 87) (.k (.c (.s (.pv (.int .i64 1)))))), (some (86, true)), [17, 16]⟩,
    ⟨(some 89), 89, (.mv (.t 88)), (some (86, true)), [18, 16, 16]⟩,
    ⟨(some 90), 90, (.load true 2 (.t 12)), (some (89, false)), [19]⟩,
    ⟨(some 91), 91, (.load true 2 (.t 3)), (some (89, false)), [19]⟩,
    ⟨(some 92), 92, (.call 20 [(.t 90), (.t 91)]), (some (89, false)), [20, 21, 19, 19]⟩,
    ⟨(some 93), 93, (.not (.t 92)), (some (89, false)), [22, 19]⟩,
    ⟨(some 94), 94, (.pick (.t 89) (.k (.c (.s (.pv (.bool true))))) (.t 93)), (some (86, true)), [19, 23, 16]⟩,
    ⟨(some 95), 95, (.pick (.t 86) (.t 94) (.k (.c (.s (.pv (.bool false)))))), (some (83, false)), [16, 24, 13]⟩,
    ⟨(some 96), 96, (.pick (.t 83) (.k (.c (.s (.pv (.bool true))))) (.t 95)), none, [13, 25]⟩])
  (.cond (.t 96) (.seq (.reg [⟨(some 6), 6, (.mv (.k (.c (.s (.pv (.bool false)))))), none, []⟩])
  .ret) .skip))
  (.seq (.reg [⟨(some 98), 98, (.load true 2 (.t 3)), none, []⟩,
    ⟨(some 99), 99, (.mv (.t 2)), none, []⟩,
    ⟨(some 100), 100, (.call 22 [(.t 98), (.t 99)]), none, [0, 1]⟩,
    ⟨(some 97), 97, (.mv (.t 100)), none, [2]⟩,
    ⟨(some 101), 101, (.ext 0 (.t 97)), none, [3]⟩,
    ⟨(some 102), 102, (.ext 1 (.t 97)), none, [3]⟩,
    ⟨(some 15), 15, (.mk 25 2 [[.zc, .zc]]), none, []⟩,
    ⟨none, 147, (.store 2 (.t 15) (.t 101)), none, [6, 4, 2, 0, 1, 2, 3, 4, 6]⟩,
    ⟨(some 16), 16, (.mv (.t 102)), none, [5, 7, 0, 1, 2, 3, 4, 5, 6, 7]⟩])
  (.seq (.reg [⟨(some 103), 103, (.load true 2 (.t 3)), none, []⟩,
    ⟨(some 104), 104, (.call 18 [(.t 103)]), none, [0]⟩,
    ⟨(some 105), 105, (.mv (.t 104)), none, [1, 1]⟩,
    ⟨(some 106), 106, (.mv (.t 2)), (some (105, true)), [2]⟩,
    ⟨(some 107), 107, (.bin false .geq (.t 106) (.k (.c (.s (.pv (.int .i64 1)))))), (some (105, true)), [3, 2]⟩,
    ⟨(some 108), 108, (.pick (.t 105) (.t 107) (.k (.c (.s (.pv (.bool false)))))), none, [2, 4]⟩,
    ⟨(some 109), 109, (.mv (.t 108)), none, [5, 2]⟩,
    ⟨(some 110), 110, (.mv (.t 2)), (some (109, true)), [6]⟩,
    ⟨(some 111), 111, (.bin false .leq (.t 110) (.k (.c (.s (.pv (.int .i64 16)))))), (some (109, true)), [7, 6]⟩,
    ⟨(some 112), 112, (.pick (.t 109) (.t 111) (.k (.c (.s (.pv (.bool false)))))), none, [6, 8]⟩,
    ⟨(some 17), 17, (.mv (.t 112)), none, [9, 6, 0, 1, 2, 3, 4, 5, 6, 7, 8, 9]⟩])
  (.seq (.seq (.reg [⟨(some 113), 113, (.mv (.t 17)), none, []⟩,
    ⟨(some 114), 114, (.not (.t 113)), none, [0]⟩])
  (.cond (.t 114) (.seq (.reg [⟨(some 115), 115, (.mv (.t 16)), none, []⟩,
    ⟨(some 116), 116, (.bin false .eql (.t 115) (.k (.c (.s (.pv (.int .i64 1)))))), none, [0]⟩,
    ⟨(some 117), 117, (.mv (.t 116)), none, [1]⟩,
    ⟨(some 118), 118, (.load true 2 (.t 15)), (some (117, true)), [2]⟩,
    ⟨(some 119), 119, (.load true 2 (.t 3)), (some (117, true)), [2]⟩,
    ⟨(some 120), 120, (.call 20 [(.t 118), (.t 119)]), (some (117, true)), [3, 4, 2, 2]⟩,
    ⟨(some 121), 121, (.pick (.t 117) (.t 120) (.k (.c (.s (.pv (.bool false)))))), none, [2, 5]⟩,
    ⟨(some 122), 122, (.mv (.t 121)), none, [6, 5]⟩,
    ⟨(some 123), 123, (.call 10 []), (some (122, true)), [7, 7]⟩,
    ⟨(some 124), 124, (.pick (.t 122) (.t 123) (.k (.c (.s (.pv (.bool false)))))), none, [7, 8]⟩,
    ⟨(some 6), 6, (.mv (.t 124)), none, [9, 8, 0, 1, 2, 3, 4, 5, 6, 7, 8, 9]⟩])
  .ret) .skip))
  (.seq (.draw [⟨(some 125), 125, (.mv (.t 16)), none, []⟩,
    ⟨(some 126), 126, (.bin false .eql (.t 125) (.k (.c (.s (.pv (.int .i64 0)))))), none, [0]⟩,
    ⟨(some 127), 127, (.mv (.t 126)), none, [1]⟩,
    ⟨(some 128), 128, (.load true 2 (.t 15)), (some (127, true)), [2]⟩,
    ⟨(some 129), 129, (.load true 2 (.t 3)), (some (127, true)), [2]⟩,
    ⟨(some 130), 130, (.load true 2 (.t 3)), (some (127, true)), [2]⟩,
    ⟨(some 131), 131, (.mv (.t 2)), (some (127, true)), [2]⟩,
    ⟨(some 132), 132, (.build [(.s (.pv (.int .i64 0))), (.s (.pv (.int .i64 0))), (.s (.pv (.string ⟨#[]⟩)))] [(0, 1, (.t 131))]), (some (127, true)), [6, 2]⟩,
    ⟨(some 133), 133, (.call 13 [(.t 130), (.t 132)]), (some (127, true)), [5, 7, 2, 2]⟩,
    ⟨(some 134), 134, (.call 21 [(.t 129), (.t 133), (.k (.c (.s (.pv (.int .i64 99)))))]), (some (127, true)), [4, 8, 8, 2]⟩,
    ⟨(some 135), 135, (.call 20 [(.t 128), (.t 134)]), (some (127, true)), [3, 9, 9, 2]⟩,
    ⟨(some 136), 136, (.pick (.t 127) (.t 135) (.k (.c (.s (.pv (.bool false)))))), none, [2, 10]⟩,
    ⟨(some 137), 137, (.mv (.t 136)), none, [11, 10]⟩,
    ⟨(some 138), 138, (.call 10 []), (some (137, true)), [12, 12]⟩,
    ⟨(some 139), 139, (.pick (.t 137) (.t 138) (.k (.c (.s (.pv (.bool false)))))), none, [12, 13]⟩,
    ⟨(some 6), 6, (.mv (.t 139)), none, [14, 13, 0, 1, 2, 3, 4, 5, 6, 7, 8, 9, 10, 11, 12, 13, 14]⟩])
  .ret))))))))))))))
theorem fn3 : FnIs Try.prog 3 ac3 [(.t 6)] 140 := ⟨Try.f3, Try.func3, by kernel_rfl, by kernel_rfl, by kernel_rfl⟩
/- lockkeeper/lockkeeperlaw13.StoreLists -/
def ac4 : ACode := (.seq (.reg [⟨(some 1), 1, (.box 25 2 (.t 0)), none, []⟩,
    ⟨(some 2), 2, (.mv (.k (.c (.s (.pv (.bool false)))))), none, []⟩])
  (.seq (.seq (.reg [⟨(some 8), 8, (.load true 2 (.t 1)), none, []⟩,
    ⟨(some 9), 9, (.call 9 [(.t 8)]), none, [0]⟩,
    ⟨(some 10), 10, (.not (.t 9)), none, [1]⟩])
  (.cond (.t 10) (.seq (.reg [⟨(some 11), 11, (.call 10 []), none, []⟩,
    ⟨(some 2), 2, (.mv (.t 11)), none, [0, 0, 0]⟩])
  .ret) .skip))
  (.seq (.reg [⟨(some 12), 12, (.load true 2 (.t 1)), none, []⟩,
    ⟨(some 13), 13, (.call 23 [(.t 12)]), none, [0]⟩,
    ⟨(some 3), 3, (.mv (.t 13)), none, [1, 1, 0, 1]⟩])
  (.seq (.reg [⟨(some 4), 4, (.mv (.k (.c (.s (.pv (.int .i64 0)))))), none, []⟩])
  (.seq (.seq (.reg [⟨(some 5), 5, (.mv (.k (.c (.s (.pv (.int .i64 1)))))), none, []⟩])
  (.block 0 (.loop (.seq (.seq (.reg [⟨(some 14), 14, (.mv (.t 5)), none, []⟩,
    ⟨(some 15), 15, (.bin false .leq (.t 14) (.k (.c (.s (.pv (.int .i64 16)))))), none, [0]⟩])
  (.cond (.t 15) .skip (.exit 0)))
  (.seq (.block 1 (.seq (.reg [⟨(some 19), 19, (.load true 2 (.t 1)), none, []⟩,
    ⟨(some 20), 20, (.mv (.t 5)), none, []⟩,
    ⟨(some 21), 21, (.call 12 [(.t 19), (.t 20)]), none, [0, 1]⟩,
    ⟨(some 18), 18, (.mv (.t 21)), none, [2]⟩,
    ⟨(some 22), 22, (.ext 0 (.t 18)), none, [3]⟩,
    ⟨(some 23), 23, (.ext 1 (.t 18)), none, [3]⟩,
    ⟨(some 6), 6, (.mk 27 3 [[(.s (.pv (.int .i64 0))), (.s (.pv (.int .i64 0))), (.s (.pv (.string ⟨#[]⟩)))]]), none, []⟩,
    ⟨none, 54, (.store 3 (.t 6) (.t 22)), none, [6, 4, 2, 0, 1, 2, 3, 4, 6]⟩,
    ⟨(some 7), 7, (.mv (.t 23)), none, [5, 7, 0, 1, 2, 3, 4, 5, 6, 7]⟩])
  (.seq (.seq (.reg [⟨(some 24), 24, (.mv (.t 7)), none, []⟩,
    ⟨(some 25), 25, (.bin false .neq (.t 24) (.k (.c (.s (.pv (.int .i64 0)))))), none, [0]⟩])
  (.cond (.t 25) (.exit 1) .skip))
  (.seq (.seq (.draw [⟨(some 26), 26, (.mv (.t 4)), none, []⟩,
    ⟨(some 27), 27, (.mv (.t 3)), none, []⟩,
    ⟨(some 28), 28, (.len (.t 27)), none, [1]⟩,
    ⟨(some 29), 29, (.bin false .geq (.t 26) (.t 28)), none, [0, 2]⟩,
    ⟨(some 30), 30, (.mv (.t 29)), none, [3]⟩,
    ⟨(some 31), 31, (.mv (.t 3)), (some (30, false)), [4]⟩,
    ⟨(some 32), 32, (.mv (.t 4)), (some (30, false)), [4]⟩,
    ⟨(some 33), 33, (.idx 3 (.t 31) (.t 32)), (some (30, false)), [5, 6, 4]⟩,
    ⟨(some 34), 34, (.load true 3 (.t 33)), (some (30, false)), [7, 4]⟩,
    ⟨(some 35), 35, (.load true 3 (.t 6)), (some (30, false)), [4]⟩,
    ⟨(some 36), 36, (.eqs true 27 (.t 34) (.t 35)), (some (30, false)), [8, 9, 4]⟩,
    ⟨(some 37), 37, (.pick (.t 30) (.k (.c (.s (.pv (.bool true))))) (.t 36)), none, [4, 10]⟩])
  (.cond (.t 37) (.seq (.reg [⟨(some 2), 2, (.mv (.k (.c (.s (.pv (.bool false)))))), none, []⟩])
  .ret) .skip))
  (.reg [⟨(some 38), 38, (.mv (.t 4)), none, []⟩,
    ⟨(some 39), 39, (.bin false .add (.t 38) (.k (.c (.s (.pv (.int .i64 1)))))), none, [0]⟩,
    ⟨(some 4), 4, (.mv (.t 39)), none, [1, 0, 1]⟩])))))
  (.reg [⟨(some 16), 16, (.mv (.t 5)), none, []⟩,
    ⟨(some 17), 17, (.bin false .add (.t 16) (.k (.c (.s (.pv (.int .i64 1)))))), none, [0]⟩,
    ⟨(some 5), 5, (.mv (.t 17)), none, [1, 0, 1]⟩]))))))
  (.seq (.reg [⟨(some 40), 40, (.mv (.t 4)), none, []⟩,
    ⟨(some 41), 41, (.mv (.t 3)), none, []⟩,
    ⟨(some 42), 42, (.len (.t 41)), none, [1]⟩,
    ⟨(some 43), 43, (.bin false .eql (.t 40) (.t 42)), none, [0, 2]⟩,
    ⟨(some 44), 44, (.mv (.t 43)), none, [3]⟩,
    ⟨(some 45), 45, (.call 10 []), (some (44, true)), [4, 4]⟩,
    ⟨(some 46), 46, (.pick (.t 44) (.t 45) (.k (.c (.s (.pv (.bool false)))))), none, [4, 5]⟩,
    ⟨(some 2), 2, (.mv (.t 46)), none, [6, 5, 0, 1, 2, 3, 4, 5, 6]⟩])
  .ret))))))
theorem fn4 : FnIs Try.prog 4 ac4 [(.t 2)] 47 := ⟨Try.f4, Try.func4, by kernel_rfl, by kernel_rfl, by kernel_rfl⟩
/- lockkeeper/lockkeeperlaw13.StoreKeeps -/
def ac5 : ACode := (.seq (.reg [⟨(some 2), 2, (.mv (.k (.c (.s (.pv (.bool false)))))), none, []⟩])
  (.seq (.reg [⟨(some 16), 16, (.call 24 [(.k (.c (.s (.pv (.int .i64 35)))))]), none, []⟩,
    ⟨(some 15), 15, (.mv (.t 16)), none, [0]⟩,
    ⟨(some 17), 17, (.ext 0 (.t 15)), none, [1]⟩,
    ⟨(some 18), 18, (.ext 1 (.t 15)), none, [1]⟩,
    ⟨(some 3), 3, (.mk 25 2 [[.zc, .zc]]), none, []⟩,
    ⟨none, 117, (.store 2 (.t 3) (.t 17)), none, [4, 2, 0, 0, 1, 2, 4]⟩,
    ⟨(some 4), 4, (.mv (.t 18)), none, [3, 5, 0, 1, 2, 3, 4, 5]⟩])
  (.seq (.reg [⟨(some 5), 5, (.mk 51 3 [[(.s (.pv (.int .i64 0))), (.s (.pv (.int .i64 0))), (.s (.pv (.string ⟨#[]⟩)))], [(.s (.pv (.int .i64 0))), (.s (.pv (.int .i64 0))), (.s (.pv (.string ⟨#[]⟩)))], [(.s (.pv (.int .i64 0))), (.s (.pv (.int .i64 0))), (.s (.pv (.string ⟨#[]⟩)))], [(.s (.pv (.int .i64 0))), (.s (.pv (.int .i64 0))), (.s (.pv (.string ⟨#[]⟩)))], [(.s (.pv (.int .i64 0))), (.s (.pv (.int .i64 0))), (.s (.pv (.string ⟨#[]⟩)))], [(.s (.pv (.int .i64 0))), (.s (.pv (.int .i64 0))), (.s (.pv (.string ⟨#[]⟩)))], [(.s (.pv (.int .i64 0))), (.s (.pv (.int .i64 0))), (.s (.pv (.string ⟨#[]⟩)))], [(.s (.pv (.int .i64 0))), (.s (.pv (.int .i64 0))), (.s (.pv (.string ⟨#[]⟩)))], [(.s (.pv (.int .i64 0))), (.s (.pv (.int .i64 0))), (.s (.pv (.string ⟨#[]⟩)))], [(.s (.pv (.int .i64 0))), (.s (.pv (.int .i64 0))), (.s (.pv (.string ⟨#[]⟩)))], [(.s (.pv (.int .i64 0))), (.s (.pv (.int .i64 0))), (.s (.pv (.string ⟨#[]⟩)))], [(.s (.pv (.int .i64 0))), (.s (.pv (.int .i64 0))), (.s (.pv (.string ⟨#[]⟩)))], [(.s (.pv (.int .i64 0))), (.s (.pv (.int .i64 0))), (.s (.pv (.string ⟨#[]⟩)))], [(.s (.pv (.int .i64 0))), (.s (.pv (.int .i64 0))), (.s (.pv (.string ⟨#[]⟩)))], [(.s (.pv (.int .i64 0))), (.s (.pv (.int .i64 0))), (.s (.pv (.string ⟨#[]⟩)))], [(.s (.pv (.int .i64 0))), (.s (.pv (.int .i64 0))), (.s (.pv (.string ⟨#[]⟩)))], [(.s (.pv (.int .i64 0))), (.s (.pv (.int .i64 0))), (.s (.pv (.string ⟨#[]⟩)))]]), none, []⟩])
  (.seq (.seq (.reg [⟨(some 6), 6, (.mv (.k (.c (.s (.pv (.int .i64 0)))))), none, []⟩])
  (.block 0 (.loop (.seq (.seq (.reg [⟨(some 19), 19, (.mv (.t 6)), none, []⟩,
    ⟨(some 20), 20, (.mv (.t 0)), none, []⟩,
    ⟨(some 21), 21, (.len (.t 20)), none, [1]⟩,
    ⟨(some 22), 22, (.bin false .lss (.t 19) (.t 21)), none, [0, 2]⟩,
    ⟨(some 23), 23, (.mv (.t 22)), none, [3]⟩,
    ⟨(some 24), 24, (.mv (.t 6)), (some (23, true)), [4]⟩,
    ⟨(some 25), 25, (.bin false .lss (.t 24) (.k (.c (.s (.pv (.int .i64 40)))))), (some (23, true)), [5, 4]⟩,
    ⟨(some 26), 26, (.pick (.t 23) (.t 25) (.k (.c (.s (.pv (.bool false)))))), none, [4, 6]⟩])
  (.cond (.t 26) .skip (.exit 0)))
  (.seq (.block 1 (.seq (.reg [⟨(some 29), 29, (.mv (.t 0)), none, []⟩,
    ⟨(some 30), 30, (.mv (.t 6)), none, []⟩,
    ⟨(some 31), 31, (.idx 3 (.t 29) (.t 30)), none, [0, 1]⟩,
    ⟨(some 32), 32, (.load true 3 (.t 31)), none, [2]⟩,
    ⟨(some 7), 7, (.mk 27 3 [[(.s (.pv (.int .i64 0))), (.s (.pv (.int .i64 0))), (.s (.pv (.string ⟨#[]⟩)))]]), none, []⟩,
    ⟨none, 117, (.store 3 (.t 7) (.t 32)), none, [4, 3, 0, 1, 2, 3, 4]⟩])
  (.seq (.seq (.reg [⟨(some 33), 33, (.fld 0 (.t 7)), none, []⟩,
    ⟨(some 34), 34, (.load false 1 (.t 33)), none, [0]⟩,
    ⟨(some 35), 35, (.bin false .lss (.t 34) (.k (.c (.s (.pv (.int .i64 1)))))), none, [1]⟩,
    ⟨(some 36), 36, (.mv (.t 35)), none, [2]⟩,
    ⟨(some 37), 37, (.fld 0 (.t 7)), (some (36, false)), [3]⟩,
    ⟨(some 38), 38, (.load false 1 (.t 37)), (some (36, false)), [4, 3]⟩,
    ⟨(some 39), 39, (.bin false .gtr (.t 38) (.k (.c (.s (.pv (.int .i64 16)))))), (some (36, false)), [5, 3]⟩,
    ⟨(some 40), 40, (.pick (.t 36) (.k (.c (.s (.pv (.bool true))))) (.t 39)), none, [3, 6]⟩])
  (.cond (.t 40) (.seq (.reg [⟨(some 41), 41, (.call 10 []), none, []⟩,
    ⟨(some 2), 2, (.mv (.t 41)), none, [0, 0, 0]⟩])
  .ret) .skip))
  (.seq (.reg [⟨(some 42), 42, (.load true 3 (.t 7)), none, []⟩,
    ⟨(some 43), 43, (.call 19 [(.t 42)]), none, [0]⟩,
    ⟨(some 44), 44, (.not (.t 43)), none, [1]⟩])
  (.cond (.t 44) (.seq (.reg [⟨(some 46), 46, (.load true 2 (.t 3)), none, []⟩,
    ⟨(some 47), 47, (.fld 0 (.t 7)), none, []⟩,
    ⟨(some 48), 48, (.load false 1 (.t 47)), none, [1]⟩,
    ⟨(some 49), 49, (.call 22 [(.t 46), (.t 48)]), none, [0, 2]⟩,
    ⟨(some 45), 45, (.mv (.t 49)), none, [3]⟩,
    ⟨(some 50), 50, (.ext 0 (.t 45)), none, [4]⟩,
    ⟨(some 51), 51, (.ext 1 (.t 45)), none, [4]⟩,
    ⟨(some 8), 8, (.mk 25 2 [[.zc, .zc]]), none, []⟩,
    ⟨none, 120, (.store 2 (.t 8) (.t 50)), none, [7, 5, 3, 0, 1, 2, 3, 4, 5, 7]⟩,
    ⟨(some 9), 9, (.mv (.t 51)), none, [6, 8, 0, 1, 2, 3, 4, 5, 6, 7, 8]⟩])
  (.seq (.seq (.reg [⟨(some 52), 52, (.mv (.t 9)), none, []⟩,
    ⟨(some 53), 53, (.bin false .neq (.t 52) (.k (.c (.s (.pv (.int .i64 0)))))), none, [0]⟩])
  (.cond (.t 53) (.seq (.reg [⟨(some 2), 2, (.mv (.k (.c (.s (.pv (.bool false)))))), none, []⟩])
  .ret) .skip))
  (.draw [⟨(some 54), 54, (.fld 0 (.t 7)), none, []⟩,
    ⟨(some 55), 55, (.load false 1 (.t 54)), none, [0]⟩,
    ⟨(some 56), 56, (.load true 2 (.t 8)), none, []⟩,
    ⟨(some 57), 57, (.build [(.s (.pv (.int .i64 0))), (.s (.pv (.int .i64 0))), (.s (.pv (.string ⟨#[]⟩)))] []), none, []⟩,
    ⟨none, 116, (.store 2 (.t 3) (.t 56)), none, [2, 2]⟩,
    ⟨(some 58), 58, (.aidx 17 3 (.t 5) (.t 55)), none, [1, 0, 1, 2, 3, 4]⟩,
    ⟨none, 118, (.store 3 (.t 58) (.t 57)), none, [5, 3, 4, 0, 1, 2, 3, 4]⟩]))) (.seq (.reg [⟨(some 60), 60, (.load true 2 (.t 3)), none, []⟩,
    ⟨(some 61), 61, (.load true 3 (.t 7)), none, []⟩,
    ⟨(some 62), 62, (.call 17 [(.t 60), (.t 61)]), none, [0, 1]⟩,
    ⟨(some 59), 59, (.mv (.t 62)), none, [2]⟩,
    ⟨(some 63), 63, (.ext 0 (.t 59)), none, [3]⟩,
    ⟨(some 64), 64, (.ext 1 (.t 59)), none, [3]⟩,
    ⟨(some 10), 10, (.mk 25 2 [[.zc, .zc]]), none, []⟩,
    ⟨none, 119, (.store 2 (.t 10) (.t 63)), none, [6, 4, 2, 0, 1, 2, 3, 4, 6]⟩,
    ⟨(some 11), 11, (.mv (.t 64)), none, [5, 7, 0, 1, 2, 3, 4, 5, 6, 7]⟩])
  (.seq (.seq (.reg [⟨(some 65), 65, (.mv (.t 11)), none, []⟩,
    ⟨(some 66), 66, (.bin false .neq (.t 65) (.k (.c (.s (.pv (.int .i64 0)))))), none, [0]⟩])
  (.cond (.t 66) (.seq (.reg [⟨(some 2), 2, (.mv (.k (.c (.s (.pv (.bool false)))))), none, []⟩])
  .ret) .skip))
  (.draw [⟨(some 67), 67, (.fld 0 (.t 7)), none, []⟩,
    ⟨(some 68), 68, (.load false 1 (.t 67)), none, [0]⟩,
    ⟨(some 69), 69, (.load true 2 (.t 10)), none, []⟩,
    ⟨(some 70), 70, (.load true 3 (.t 7)), none, []⟩,
    ⟨none, 116, (.store 2 (.t 3) (.t 69)), none, [2, 2]⟩,
    ⟨(some 71), 71, (.aidx 17 3 (.t 5) (.t 68)), none, [1, 0, 1, 2, 3, 4]⟩,
    ⟨none, 118, (.store 3 (.t 71) (.t 70)), none, [5, 3, 4, 0, 1, 2, 3, 4]⟩]))))))))
  (.reg [⟨(some 27), 27, (.mv (.t 6)), none, []⟩,
    ⟨(some 28), 28, (.bin false .add (.t 27) (.k (.c (.s (.pv (.int .i64 1)))))), none, [0]⟩,
    ⟨(some 6), 6, (.mv (.t 28)), none, [1, 0, 1]⟩]))))))
  (.seq (.seq (.reg [⟨(some 12), 12, (.mv (.k (.c (.s (.pv (.int .i64 1)))))), none, []⟩])
  (.block 2 (.loop (.seq (.seq (.reg [⟨(some 72), 72, (.mv (.t 12)), none, []⟩,
    ⟨(some 73), 73, (.bin false .leq (.t 72) (.k (.c (.s (.pv (.int .i64 16)))))), none, [0]⟩])
  (.cond (.t 73) .skip (.exit 2)))
  (.seq (.block 3 (.seq (.reg [⟨(some 77), 77, (.load true 2 (.t 3)), none, []⟩,
    ⟨(some 78), 78, (.mv (.t 12)), none, []⟩,
    ⟨(some 79), 79, (.call 11 [(.t 77), (.t 78)]), none, [0, 1]⟩,
    ⟨(some 76), 76, (.mv (.t 79)), none, [2]⟩,
    ⟨(some 80), 80, (.ext 0 (.t 76)), none, [3]⟩,
    ⟨(some 81), 81, (.ext 1 (.t 76)), none, [3]⟩,
    ⟨(some 13), 13, (.mk 27 3 [[(.s (.pv (.int .i64 0))), (.s (.pv (.int .i64 0))), (.s (.pv (.string ⟨#[]⟩)))]]), none, []⟩,
    ⟨none, 119, (.store 3 (.t 13) (.t 80)), none, [6, 4, 2, 0, 1, 2, 3, 4, 6]⟩,
    ⟨(some 14), 14, (.mv (.t 81)), none, [5, 7, 0, 1, 2, 3, 4, 5, 6, 7]⟩])
  (.seq (.draw [⟨(some 82), 82, (.load true 3 (.t 13)), none, []⟩,
    ⟨(some 83), 83, (.mv (.t 12)), none, []⟩,
    ⟨(some 84), 84, (.aidx 17 3 (.t 5) (.t 83)), none, [1]⟩,
    ⟨(some 85), 85, (.load true 3 (.t 84)), none, [2]⟩,
    ⟨(some 86), 86, (.eqs true 27 (.t 82) (.t 85)), none, [0, 3]⟩,
    ⟨(some 87), 87, (.mv (.t 86)), none, [4]⟩,
    ⟨(some 88), 88, (.mv (.t 14)), (some (87, false)), [5]⟩,
    ⟨(some 89), 89, (.bin false .eql (.t 88) (.k (.c (.s (.pv (.int .i64 0)))))), (some (87, false)), [6, 5]⟩,
    ⟨(some 90), 90, (.mv (.t 12)), (some (87, false)), [5]⟩,
    ⟨(some 91), 91, (.aidx 17 3 (.t 5) (.t 90)), (some (87, false)), [8, 5]⟩,
    ⟨(some 92), 92, (.fld 0 (.t 91)), (some (87, false)), [9, 5]⟩,
    ⟨(some 93), 93, (.load false 1 (.t 92)), (some (87, false)), [10, 5]⟩,
    ⟨(some 94), 94, (.bin false .neq (.t 93) (.k (.c (.s (.pv (.int .i64 0)))))), (some (87, false)), [11, 5]⟩,
    ⟨(some 95), 95, (.bin true .neq (.t 89) (.t 94)), (some (87, false)), [7, 12, 5]⟩,
    ⟨(some 96), 96, (.pick (.t 87) (.k (.c (.s (.pv (.bool true))))) (.t 95)), none, [5, 13]⟩,
    ⟨(some 97), 97, (.mv (.t 96)), none, [14, 5]⟩,
    ⟨(some 98), 98, (.mv (.t 14)), (some (97, false)), [15]⟩,
    ⟨(some 99), 99, (.bin false .neq (.t 98) (.k (.c (.s (.pv (.int .i64 0)))))), (some (97, false)), [16, 15]⟩,
    ⟨(some 100), 100, (.mv (.t 99)), (some (97, false)), [17, 15, 15]⟩,
    ⟨(some 101), 101, (.mv (.t 14)), (some (100, true)), [18]⟩,
    ⟨(some 102), 102, (.bin false .neq (.t 101) (.k (.c (.s (.pv (.int .i64 3)))))), (some (100, true)), [19, 18]⟩,
    ⟨(some 103), 103, (.pick (.t 100) (.t 102) (.k (.c (.s (.pv (.bool false)))))), (some (97, false)), [18, 20, 15]⟩,
    ⟨(some 104), 104, (.pick (.t 97) (.k (.c (.s (.pv (.bool true))))) (.t 103)), none, [15, 21]⟩])
  (.cond (.t 104) (.seq (.reg [⟨(some 2), 2, (.mv (.k (.c (.s (.pv (.bool false)))))), none, []⟩])
  .ret) .skip))))
  (.reg [⟨(some 74), 74, (.mv (.t 12)), none, []⟩,
    ⟨(some 75), 75, (.bin false .add (.t 74) (.k (.c (.s (.pv (.int .i64 1)))))), none, [0]⟩,
    ⟨(some 12), 12, (.mv (.t 75)), none, [1, 0, 1]⟩]))))))
  (.seq (.reg [⟨(some 105), 105, (.fld 1 (.t 3)), none, []⟩,
    ⟨(some 106), 106, (.load false 1 (.t 105)), none, [0]⟩,
    ⟨(some 107), 107, (.len (.t 106)), none, [1]⟩,
    ⟨(some 108), 108, (.bin false .eql (.t 107) (.k (.c (.s (.pv (.int .i64 0)))))), none, [2]⟩,
    ⟨(some 109), 109, (.mv (.t 108)), none, [3]⟩,
    ⟨(some 110), 110, (.call 10 []), (some (109, true)), [4, 4]⟩,
    ⟨(some 111), 111, (.pick (.t 109) (.t 110) (.k (.c (.s (.pv (.bool false)))))), none, [4, 5]⟩,
    ⟨(some 2), 2, (.mv (.t 111)), none, [6, 5, 0, 1, 2, 3, 4, 5, 6]⟩])
  .ret))))))
theorem fn5 : FnIs Try.prog 5 ac5 [(.t 2)] 112 := ⟨Try.f5, Try.func5, by kernel_rfl, by kernel_rfl, by kernel_rfl⟩
/- lockkeeper/lockkeeperlaw13.StoreCrash -/
def ac6 : ACode := (.seq (.reg [⟨(some 5), 5, (.box 27 3 (.t 1)), none, []⟩,
    ⟨(some 8), 8, (.mv (.k (.c (.s (.pv (.bool false)))))), none, []⟩])
  (.seq (.reg [⟨(some 22), 22, (.call 24 [(.k (.c (.s (.pv (.int .i64 35)))))]), none, []⟩,
    ⟨(some 21), 21, (.mv (.t 22)), none, [0]⟩,
    ⟨(some 23), 23, (.ext 0 (.t 21)), none, [1]⟩,
    ⟨(some 24), 24, (.ext 1 (.t 21)), none, [1]⟩,
    ⟨(some 9), 9, (.mk 25 2 [[.zc, .zc]]), none, []⟩,
    ⟨none, 163, (.store 2 (.t 9) (.t 23)), none, [4, 2, 0, 0, 1, 2, 4]⟩,
    ⟨(some 10), 10, (.mv (.t 24)), none, [3, 5, 0, 1, 2, 3, 4, 5]⟩])
  (.seq (.seq (.reg [⟨(some 25), 25, (.mv (.t 0)), none, []⟩,
    ⟨(some 26), 26, (.len (.t 25)), none, [0]⟩,
    ⟨(some 27), 27, (.bin false .gtr (.t 26) (.k (.c (.s (.pv (.int .i64 16)))))), none, [1]⟩,
    ⟨(some 28), 28, (.mv (.t 27)), none, [2]⟩,
    ⟨(some 29), 29, (.mv (.t 3)), (some (28, false)), [3]⟩,
    ⟨(some 30), 30, (.len (.t 29)), (some (28, false)), [4, 3]⟩,
    ⟨(some 31), 31, (.bin false .gtr (.t 30) (.k (.c (.s (.pv (.int .i64 60)))))), (some (28, false)), [5, 3]⟩,
    ⟨(some 32), 32, (.pick (.t 28) (.k (.c (.s (.pv (.bool true))))) (.t 31)), none, [3, 6]⟩,
    ⟨(some 33), 33, (.mv (.t 32)), none, [7, 3]⟩,
    ⟨(some 34), 34, (.fld 0 (.t 5)), (some (33, false)), [8]⟩,
    ⟨(some 35), 35, (.load false 1 (.t 34)), (some (33, false)), [9, 8]⟩,
    ⟨(some 36), 36, (.bin false .lss (.t 35) (.k (.c (.s (.pv (.int .i64 1)))))), (some (33, false)), [10, 8]⟩,
    ⟨(some 37), 37, (.pick (.t 33) (.k (.c (.s (.pv (.bool true))))) (.t 36)), none, [8, 11]⟩,
    ⟨(some 38), 38, (.mv (.t 37)), none, [12, 8]⟩,
    ⟨(some 39), 39, (.fld 0 (.t 5)), (some (38, false)), [13]⟩,
    ⟨(some 40), 40, (.load false 1 (.t 39)), (some (38, false)), [14, 13]⟩,
    ⟨(some 41), 41, (.bin false .gtr (.t 40) (.k (.c (.s (.pv (.int .i64 16)))))), (some (38, false)), [15, 13]⟩,
    ⟨(some 42), 42, (.pick (.t 38) (.k (.c (.s (.pv (.bool true))))) (.t 41)), none, [13, 16]⟩,
    ⟨(some 43), 43, (.mv (.t 42)), none, [17, 13]⟩,
    ⟨(some 44), 44, (.load true 3 (.t 5)), (some (43, false)), [18]⟩,
    ⟨(some 45), 45, (.call 19 [(.t 44)]), (some (43, false)), [19, 18, 18]⟩,
    ⟨(some 46), 46, (.not (.t 45)), (some (43, false)), [20, 18]⟩,
    ⟨(some 47), 47, (.mv (.t 46)), (some (43, false)), [21, 20, 18]⟩,
    ⟨(some 48), 48, (.fld 1 (.t 5)), (some (47, true)), [22]⟩,
    ⟨(some 49), 49, (.load false 1 (.t 48)), (some (47, true)), [23, 22]⟩,
    ⟨(some 50), 50, (.bin false .neq (.t 49) (.k (.c (.s (.pv (.int .i64 0)))))), (some (47, true)), [24, 22]⟩,
    ⟨(some 51), 51, (.mv (.t 50)), (some (47, true)), [25, 22, 22]⟩,
    ⟨(some 52), 52, (.fld 2 (.t 5)), (some (51, false)), [26]⟩,
    ⟨(some 53), 53, (.load false 1 (.t 52)), (some (51, false)), [27, 26]⟩,
    ⟨(some 54), 54, (.bin false .neq (.t 53) (.k (.c (.s (.pv (.string ⟨#[]⟩)))))), (some (51, false)), [28, 26]⟩,
    ⟨(some 55), 55, (.pick (.t 51) (.k (.c (.s (.pv (.bool true))))) (.t 54)), (some (47, true)), [26, 29, 22]⟩,
    ⟨(some 56), 56, (.pick (.t 47) (.t 55) (.k (.c (.s (.pv (.bool false)))))), (some (43, false)), [22, 30, 18]⟩,
    ⟨(some 57), 57, (.pick (.t 43) (.k (.c (.s (.pv (.bool true))))) (.t 56)), none, [18, 31]⟩])
  (.cond (.t 57) (.seq (.reg [⟨(some 58), 58, (.call 10 []), none, []⟩,
    ⟨(some 8), 8, (.mv (.t 58)), none, [0, 0, 0]⟩])
  .ret) .skip))
  (.seq (.reg [⟨(some 11), 11, (.mk 51 3 [[(.s (.pv (.int .i64 0))), (.s (.pv (.int .i64 0))), (.s (.pv (.string ⟨#[]⟩)))], [(.s (.pv (.int .i64 0))), (.s (.pv (.int .i64 0))), (.s (.pv (.string ⟨#[]⟩)))], [(.s (.pv (.int .i64 0))), (.s (.pv (.int .i64 0))), (.s (.pv (.string ⟨#[]⟩)))], [(.s (.pv (.int .i64 0))), (.s (.pv (.int .i64 0))), (.s (.pv (.string ⟨#[]⟩)))], [(.s (.pv (.int .i64 0))), (.s (.pv (.int .i64 0))), (.s (.pv (.string ⟨#[]⟩)))], [(.s (.pv (.int .i64 0))), (.s (.pv (.int .i64 0))), (.s (.pv (.string ⟨#[]⟩)))], [(.s (.pv (.int .i64 0))), (.s (.pv (.int .i64 0))), (.s (.pv (.string ⟨#[]⟩)))], [(.s (.pv (.int .i64 0))), (.s (.pv (.int .i64 0))), (.s (.pv (.string ⟨#[]⟩)))], [(.s (.pv (.int .i64 0))), (.s (.pv (.int .i64 0))), (.s (.pv (.string ⟨#[]⟩)))], [(.s (.pv (.int .i64 0))), (.s (.pv (.int .i64 0))), (.s (.pv (.string ⟨#[]⟩)))], [(.s (.pv (.int .i64 0))), (.s (.pv (.int .i64 0))), (.s (.pv (.string ⟨#[]⟩)))], [(.s (.pv (.int .i64 0))), (.s (.pv (.int .i64 0))), (.s (.pv (.string ⟨#[]⟩)))], [(.s (.pv (.int .i64 0))), (.s (.pv (.int .i64 0))), (.s (.pv (.string ⟨#[]⟩)))], [(.s (.pv (.int .i64 0))), (.s (.pv (.int .i64 0))), (.s (.pv (.string ⟨#[]⟩)))], [(.s (.pv (.int .i64 0))), (.s (.pv (.int .i64 0))), (.s (.pv (.string ⟨#[]⟩)))], [(.s (.pv (.int .i64 0))), (.s (.pv (.int .i64 0))), (.s (.pv (.string ⟨#[]⟩)))], [(.s (.pv (.int .i64 0))), (.s (.pv (.int .i64 0))), (.s (.pv (.string ⟨#[]⟩)))]]), none, []⟩])
  (.seq (.seq (.reg [⟨(some 59), 59, (.mv (.t 0)), none, []⟩,
    ⟨(some 60), 60, (.len (.t 59)), none, [0]⟩,
    ⟨(some 61), 61, (.mv (.k (.c (.s (.pv (.int .i64 0)))))), none, []⟩])
  (.block 0 (.loop (.seq (.reg [⟨(some 62), 62, (.bin false .lss (.t 61) (.t 60)), none, []⟩])
  (.seq (.cond (.t 62) .skip (.exit 0))
  (.seq (.block 1 (.seq (.reg [⟨(some 63), 63, (.idx 3 (.t 59) (.t 61)), none, []⟩,
    ⟨(some 64), 64, (.load true 3 (.t 63)), none, [0]⟩,
    ⟨(some 13), 13, (.mk 27 3 [[(.s (.pv (.int .i64 0))), (.s (.pv (.int .i64 0))), (.s (.pv (.string ⟨#[]⟩)))]]), none, []⟩,
    ⟨none, 161, (.store 3 (.t 13) (.t 64)), none, [2, 1, 0, 1, 2]⟩])
  (.seq (.seq (.reg [⟨(some 65), 65, (.load true 3 (.t 13)), none, []⟩,
    ⟨(some 66), 66, (.call 19 [(.t 65)]), none, [0]⟩,
    ⟨(some 67), 67, (.not (.t 66)), none, [1]⟩,
    ⟨(some 68), 68, (.mv (.t 67)), none, [2, 1]⟩,
    ⟨(some 69), 69, (.fld 0 (.t 13)), (some (68, false)), [3]⟩,
    ⟨(some 70), 70, (.load false 1 (.t 69)), (some (68, false)), [4, 3]⟩,
    ⟨(some 71), 71, (.aidx 17 3 (.t 11) (.t 70)), (some (68, false)), [5, 3]⟩,
    ⟨(some 72), 72, (.fld 0 (.t 71)), (some (68, false)), [6, 3]⟩,
    ⟨(some 73), 73, (.load false 1 (.t 72)), (some (68, false)), [7, 3]⟩,
    ⟨(some 74), 74, (.bin false .neq (.t 73) (.k (.c (.s (.pv (.int .i64 0)))))), (some (68, false)), [8, 3]⟩,
    ⟨(some 75), 75, (.pick (.t 68) (.k (.c (.s (.pv (.bool true))))) (.t 74)), none, [3, 9]⟩])
  (.cond (.t 75) (.seq (.reg [⟨(some 76), 76, (.call 10 []), none, []⟩,
    ⟨(some 8), 8, (.mv (.t 76)), none, [0, 0, 0]⟩])
  .ret) .skip))
  (.seq (.reg [⟨(some 78), 78, (.load true 2 (.t 9)), none, []⟩,
    ⟨(some 79), 79, (.load true 3 (.t 13)), none, []⟩,
    ⟨(some 80), 80, (.call 17 [(.t 78), (.t 79)]), none, [0, 1]⟩,
    ⟨(some 77), 77, (.mv (.t 80)), none, [2]⟩,
    ⟨(some 81), 81, (.ext 0 (.t 77)), none, [3]⟩,
    ⟨(some 82), 82, (.ext 1 (.t 77)), none, [3]⟩,
    ⟨(some 14), 14, (.mk 25 2 [[.zc, .zc]]), none, []⟩,
    ⟨none, 165, (.store 2 (.t 14) (.t 81)), none, [6, 4, 2, 0, 1, 2, 3, 4, 6]⟩,
    ⟨(some 15), 15, (.mv (.t 82)), none, [5, 7, 0, 1, 2, 3, 4, 5, 6, 7]⟩])
  (.seq (.seq (.reg [⟨(some 83), 83, (.mv (.t 15)), none, []⟩,
    ⟨(some 84), 84, (.bin false .neq (.t 83) (.k (.c (.s (.pv (.int .i64 0)))))), none, [0]⟩])
  (.cond (.t 84) (.seq (.reg [⟨(some 8), 8, (.mv (.k (.c (.s (.pv (.bool false)))))), none, []⟩])
  .ret) .skip))
  (.draw [⟨(some 85), 85, (.fld 0 (.t 13)), none, []⟩,
    ⟨(some 86), 86, (.load false 1 (.t 85)), none, [0]⟩,
    ⟨(some 87), 87, (.load true 2 (.t 14)), none, []⟩,
    ⟨(some 88), 88, (.load true 3 (.t 13)), none, []⟩,
    ⟨none, 162, (.store 2 (.t 9) (.t 87)), none, [2, 2]⟩,
    ⟨(some 89), 89, (.aidx 17 3 (.t 11) (.t 86)), none, [1, 0, 1, 2, 3, 4]⟩,
    ⟨none, 164, (.store 3 (.t 89) (.t 88)), none, [5, 3, 4, 0, 1, 2, 3, 4]⟩]))))))
  (.reg [⟨(some 90), 90, (.bin false .add (.t 61) (.k (.c (.s (.pv (.int .i64 1)))))), none, []⟩,
    ⟨(some 61), 61, (.mv (.t 90)), none, [0]⟩])))))))
  (.seq (.reg [⟨(some 91), 91, (.mv (.t 2)), none, []⟩,
    ⟨(some 92), 92, (.bin false .rem (.t 91) (.k (.c (.s (.pv (.int .u8 12)))))), none, [0]⟩,
    ⟨(some 93), 93, (.conv .i64 (.t 92)), none, [1]⟩,
    ⟨(some 16), 16, (.mv (.t 93)), none, [2, 0, 1, 2]⟩])
  (.seq (.draw [⟨(some 94), 94, (.load true 2 (.t 9)), none, []⟩,
    ⟨(some 95), 95, (.load true 2 (.t 9)), none, []⟩,
    ⟨(some 96), 96, (.load true 3 (.t 5)), none, []⟩,
    ⟨(some 97), 97, (.call 16 [(.t 95), (.t 96)]), none, [1, 2]⟩,
    ⟨(some 98), 98, (.mv (.t 16)), none, []⟩,
    ⟨(some 99), 99, (.call 27 [(.t 94), (.t 97), (.t 98)]), none, [0, 3, 4, 3]⟩,
    ⟨(some 100), 100, (.mv (.t 3)), none, []⟩,
    ⟨(some 101), 101, (.call 26 [(.t 99), (.t 100)]), none, [5, 6, 5]⟩,
    ⟨(some 102), 102, (.call 25 [(.t 101)]), none, [7, 7]⟩,
    ⟨none, 167, (.store 2 (.t 9) (.t 102)), none, [8, 8, 0, 1, 2, 3, 4, 5, 6, 7, 8]⟩])
  (.seq (.reg [⟨(some 103), 103, (.load true 3 (.t 5)), none, []⟩,
    ⟨(some 17), 17, (.mk 27 3 [[(.s (.pv (.int .i64 0))), (.s (.pv (.int .i64 0))), (.s (.pv (.string ⟨#[]⟩)))]]), none, []⟩,
    ⟨none, 160, (.store 3 (.t 17) (.t 103)), none, [1, 0, 0, 1]⟩])
  (.seq (.seq (.reg [⟨(some 104), 104, (.fld 1 (.t 5)), none, []⟩,
    ⟨(some 105), 105, (.load false 1 (.t 104)), none, [0]⟩,
    ⟨(some 106), 106, (.bin false .eql (.t 105) (.k (.c (.s (.pv (.int .i64 0)))))), none, [1]⟩])
  (.cond (.t 106) (.reg [⟨(some 107), 107, (.build [(.s (.pv (.int .i64 0))), (.s (.pv (.int .i64 0))), (.s (.pv (.string ⟨#[]⟩)))] []), none, []⟩,
    ⟨none, 159, (.store 3 (.t 17) (.t 107)), none, [0, 0]⟩]) .skip))
  (.seq (.seq (.reg [⟨(some 18), 18, (.mv (.k (.c (.s (.pv (.int .i64 1)))))), none, []⟩])
  (.block 2 (.loop (.seq (.seq (.reg [⟨(some 108), 108, (.mv (.t 18)), none, []⟩,
    ⟨(some 109), 109, (.bin false .leq (.t 108) (.k (.c (.s (.pv (.int .i64 16)))))), none, [0]⟩])
  (.cond (.t 109) .skip (.exit 2)))
  (.seq (.block 3 (.seq (.reg [⟨(some 113), 113, (.load true 2 (.t 9)), none, []⟩,
    ⟨(some 114), 114, (.mv (.t 18)), none, []⟩,
    ⟨(some 115), 115, (.call 11 [(.t 113), (.t 114)]), none, [0, 1]⟩,
    ⟨(some 112), 112, (.mv (.t 115)), none, [2]⟩,
    ⟨(some 116), 116, (.ext 0 (.t 112)), none, [3]⟩,
    ⟨(some 117), 117, (.ext 1 (.t 112)), none, [3]⟩,
    ⟨(some 19), 19, (.mk 27 3 [[(.s (.pv (.int .i64 0))), (.s (.pv (.int .i64 0))), (.s (.pv (.string ⟨#[]⟩)))]]), none, []⟩,
    ⟨none, 165, (.store 3 (.t 19) (.t 116)), none, [6, 4, 2, 0, 1, 2, 3, 4, 6]⟩,
    ⟨(some 20), 20, (.mv (.t 117)), none, [5, 7, 0, 1, 2, 3, 4, 5, 6, 7]⟩])
  (.seq (.draw [⟨(some 118), 118, (.mv (.t 20)), none, []⟩,
    ⟨(some 119), 119, (.bin false .neq (.t 118) (.k (.c (.s (.pv (.int .i64 0)))))), none, [0]⟩,
    ⟨(some 120), 120, (.mv (.t 119)), none, [1]⟩,
    ⟨(some 121), 121, (.mv (.t 20)), (some (120, true)), [2]⟩,
    ⟨(some 122), 122, (.bin false .neq (.t 121) (.k (.c (.s (.pv (.int .i64 3)))))), (some (120, true)), [3, 2]⟩,
    ⟨(some 123), 123, (.pick (.t 120) (.t 122) (.k (.c (.s (.pv (.bool false)))))), none, [2, 4]⟩,
    ⟨(some 124), 124, (.mv (.t 123)), none, [5, 2]⟩,
    ⟨(some 125), 125, (.load true 3 (.t 19)), (some (124, false)), [6]⟩,
    ⟨(some 126), 126, (.mv (.t 18)), (some (124, false)), [6]⟩,
    ⟨(some 127), 127, (.aidx 17 3 (.t 11) (.t 126)), (some (124, false)), [8, 6]⟩,
    ⟨(some 128), 128, (.load true 3 (.t 127)), (some (124, false)), [9, 6]⟩,
    ⟨(some 129), 129, (.eqs true 27 (.t 125) (.t 128)), (some (124, false)), [7, 10, 6]⟩,
    ⟨(some 130), 130, (.mv (.t 129)), (some (124, false)), [11, 6, 6]⟩,
    ⟨(some 131), 131, (.mv (.t 18)), (some (130, true)), [12]⟩,
    ⟨(some 132), 132, (.fld 0 (.t 5)), (some (130, true)), [12]⟩,
    ⟨(some 133), 133, (.load false 1 (.t 132)), (some (130, true)), [14, 12]⟩,
    ⟨(some 134), 134, (.bin false .neq (.t 131) (.t 133)), (some (130, true)), [13, 15, 12]⟩,
    ⟨(some 135), 135, (.mv (.t 134)), (some (130, true)), [16, 12, 12]⟩,
    ⟨(some 136), 136, (.load true 3 (.t 19)), (some (135, false)), [17]⟩,
    ⟨(some 137), 137, (.load true 3 (.t 17)), (some (135, false)), [17]⟩,
    ⟨(some 138), 138, (.eqs true 27 (.t 136) (.t 137)), (some (135, false)), [18, 19, 17]⟩,
    ⟨(some 139), 139, (.pick (.t 135) (.k (.c (.s (.pv (.bool true))))) (.t 138)), (some (130, true)), [17, 20, 12]⟩,
    ⟨(some 140), 140, (.pick (.t 130) (.t 139) (.k (.c (.s (.pv (.bool false)))))), (some (124, false)), [12, 21, 6]⟩,
    ⟨(some 141), 141, (.pick (.t 124) (.k (.c (.s (.pv (.bool true))))) (.t 140)), none, [6, 22]⟩,
    ⟨(some 142), 142, (.mv (.t 141)), none, [23, 17]⟩,
    ⟨(some 143), 143, (.mv (.t 16)), (some (142, false)), [24]⟩,
    ⟨(some 144), 144, (.bin false .geq (.t 143) (.k (.c (.s (.pv (.int .i64 10)))))), (some (142, false)), [25, 24]⟩,
    ⟨(some 145), 145, (.mv (.t 144)), (some (142, false)), [26, 24, 24]⟩,
    ⟨(some 146), 146, (.mv (.t 18)), (some (145, true)), [27]⟩,
    ⟨(some 147), 147, (.fld 0 (.t 5)), (some (145, true)), [27]⟩,
    ⟨(some 148), 148, (.load false 1 (.t 147)), (some (145, true)), [29, 27]⟩,
    ⟨(some 149), 149, (.bin false .eql (.t 146) (.t 148)), (some (145, true)), [28, 30, 27]⟩,
    ⟨(some 150), 150, (.pick (.t 145) (.t 149) (.k (.c (.s (.pv (.bool false)))))), (some (142, false)), [27, 31, 24]⟩,
    ⟨(some 151), 151, (.mv (.t 150)), (some (142, false)), [32, 27, 24]⟩,
    ⟨(some 152), 152, (.load true 3 (.t 19)), (some (151, true)), [33]⟩,
    ⟨(some 153), 153, (.load true 3 (.t 17)), (some (151, true)), [33]⟩,
    ⟨(some 154), 154, (.eqs true 27 (.t 152) (.t 153)), (some (151, true)), [34, 35, 33]⟩,
    ⟨(some 155), 155, (.pick (.t 151) (.t 154) (.k (.c (.s (.pv (.bool false)))))), (some (142, false)), [33, 36, 24]⟩,
    ⟨(some 156), 156, (.pick (.t 142) (.k (.c (.s (.pv (.bool true))))) (.t 155)), none, [24, 37]⟩])
  (.cond (.t 156) (.seq (.reg [⟨(some 8), 8, (.mv (.k (.c (.s (.pv (.bool false)))))), none, []⟩])
  .ret) .skip))))
  (.reg [⟨(some 110), 110, (.mv (.t 18)), none, []⟩,
    ⟨(some 111), 111, (.bin false .add (.t 110) (.k (.c (.s (.pv (.int .i64 1)))))), none, [0]⟩,
    ⟨(some 18), 18, (.mv (.t 111)), none, [1, 0, 1]⟩]))))))
  (.seq (.reg [⟨(some 157), 157, (.call 10 []), none, []⟩,
    ⟨(some 8), 8, (.mv (.t 157)), none, [0, 0, 0]⟩])
  .ret)))))))))))
theorem fn6 : FnIs Try.prog 6 ac6 [(.t 8)] 158 := ⟨Try.f6, Try.func6, by kernel_rfl, by kernel_rfl, by kernel_rfl⟩
/- lockkeeper/lockkeeperlaw13.StoreOther -/
def ac7 : ACode := (.seq (.reg [⟨(some 3), 3, (.box 25 2 (.t 0)), none, []⟩,
    ⟨(some 4), 4, (.box 27 3 (.t 1)), none, []⟩,
    ⟨(some 6), 6, (.mv (.k (.c (.s (.pv (.bool false)))))), none, []⟩])
  (.seq (.seq (.reg [⟨(some 14), 14, (.load true 2 (.t 3)), none, []⟩,
    ⟨(some 15), 15, (.call 9 [(.t 14)]), none, [0]⟩,
    ⟨(some 16), 16, (.not (.t 15)), none, [1]⟩,
    ⟨(some 17), 17, (.mv (.t 16)), none, [2, 1]⟩,
    ⟨(some 18), 18, (.fld 2 (.t 4)), (some (17, false)), [3]⟩,
    ⟨(some 19), 19, (.load false 1 (.t 18)), (some (17, false)), [4, 3]⟩,
    ⟨(some 20), 20, (.slen (.t 19)), (some (17, false)), [5, 3]⟩,
    ⟨(some 21), 21, (.bin false .gtr (.t 20) (.k (.c (.s (.pv (.int .i64 100)))))), (some (17, false)), [6, 3]⟩,
    ⟨(some 22), 22, (.pick (.t 17) (.k (.c (.s (.pv (.bool true))))) (.t 21)), none, [3, 7]⟩,
    ⟨(some 23), 23, (.mv (.t 22)), none, [8, 3]⟩,
    ⟨(some 24), 24, (.load true 2 (.t 3)), (some (23, false)), [9]⟩,
    ⟨(some 25), 25, (.call 18 [(.t 24)]), (some (23, false)), [10, 9, 9]⟩,
    ⟨(some 26), 26, (.not (.t 25)), (some (23, false)), [11, 9]⟩,
    ⟨(some 27), 27, (.pick (.t 23) (.k (.c (.s (.pv (.bool true))))) (.t 26)), none, [9, 12]⟩,
    ⟨(some 28), 28, (.mv (.t 27)), none, [13, 11]⟩,
    ⟨(some 29), 29, (.fld 1 (.t 3)), (some (28, false)), [14]⟩,
    ⟨(some 30), 30, (.load false 1 (.t 29)), (some (28, false)), [15, 14]⟩,
    ⟨(some 31), 31, (.len (.t 30)), (some (28, false)), [16, 14]⟩,
    ⟨(some 32), 32, (.bin false .neq (.t 31) (.k (.c (.s (.pv (.int .i64 0)))))), (some (28, false)), [17, 14]⟩,
    ⟨(some 33), 33, (.pick (.t 28) (.k (.c (.s (.pv (.bool true))))) (.t 32)), none, [14, 18]⟩])
  (.cond (.t 33) (.seq (.reg [⟨(some 34), 34, (.call 10 []), none, []⟩,
    ⟨(some 6), 6, (.mv (.t 34)), none, [0, 0, 0]⟩])
  .ret) .skip))
  (.seq (.reg [⟨(some 36), 36, (.load true 2 (.t 3)), none, []⟩,
    ⟨(some 37), 37, (.load true 3 (.t 4)), none, []⟩,
    ⟨(some 38), 38, (.call 17 [(.t 36), (.t 37)]), none, [0, 1]⟩,
    ⟨(some 35), 35, (.mv (.t 38)), none, [2]⟩,
    ⟨(some 39), 39, (.ext 0 (.t 35)), none, [3]⟩,
    ⟨(some 40), 40, (.ext 1 (.t 35)), none, [3]⟩,
    ⟨(some 7), 7, (.mk 25 2 [[.zc, .zc]]), none, []⟩,
    ⟨none, 119, (.store 2 (.t 7) (.t 39)), none, [6, 4, 2, 0, 1, 2, 3, 4, 6]⟩,
    ⟨(some 8), 8, (.mv (.t 40)), none, [5, 7, 0, 1, 2, 3, 4, 5, 6, 7]⟩])
  (.seq (.seq (.reg [⟨(some 41), 41, (.mv (.t 2)), none, []⟩])
  (.cond (.t 41) (.reg [⟨(some 43), 43, (.load true 2 (.t 3)), none, []⟩,
    ⟨(some 44), 44, (.fld 0 (.t 4)), none, []⟩,
    ⟨(some 45), 45, (.load false 1 (.t 44)), none, [1]⟩,
    ⟨(some 46), 46, (.call 22 [(.t 43), (.t 45)]), none, [0, 2]⟩,
    ⟨(some 42), 42, (.mv (.t 46)), none, [3]⟩,
    ⟨(some 47), 47, (.ext 0 (.t 42)), none, [4]⟩,
    ⟨(some 48), 48, (.ext 1 (.t 42)), none, [4]⟩,
    ⟨none, 119, (.store 2 (.t 7) (.t 47)), none, [5, 3, 0, 1, 2, 3, 4, 5]⟩,
    ⟨(some 8), 8, (.mv (.t 48)), none, [6, 7, 0, 1, 2, 3, 4, 5, 6, 7]⟩]) .skip))
  (.seq (.seq (.reg [⟨(some 9), 9, (.mv (.k (.c (.s (.pv (.int .i64 1)))))), none, []⟩])
  (.block 0 (.loop (.seq (.seq (.reg [⟨(some 49), 49, (.mv (.t 9)), none, []⟩,
    ⟨(some 50), 50, (.bin false .leq (.t 49) (.k (.c (.s (.pv (.int .i64 16)))))), none, [0]⟩])
  (.cond (.t 50) .skip (.exit 0)))
  (.seq (.block 1 (.seq (.reg [⟨(some 54), 54, (.load true 2 (.t 3)), none, []⟩,
    ⟨(some 55), 55, (.mv (.t 9)), none, []⟩,
    ⟨(some 56), 56, (.call 11 [(.t 54), (.t 55)]), none, [0, 1]⟩,
    ⟨(some 53), 53, (.mv (.t 56)), none, [2]⟩,
    ⟨(some 57), 57, (.ext 0 (.t 53)), none, [3]⟩,
    ⟨(some 58), 58, (.ext 1 (.t 53)), none, [3]⟩,
    ⟨(some 10), 10, (.mk 27 3 [[(.s (.pv (.int .i64 0))), (.s (.pv (.int .i64 0))), (.s (.pv (.string ⟨#[]⟩)))]]), none, []⟩,
    ⟨none, 119, (.store 3 (.t 10) (.t 57)), none, [6, 4, 2, 0, 1, 2, 3, 4, 6]⟩,
    ⟨(some 11), 11, (.mv (.t 58)), none, [5, 7, 0, 1, 2, 3, 4, 5, 6, 7]⟩])
  (.seq (.reg [⟨(some 60), 60, (.load true 2 (.t 7)), none, []⟩,
    ⟨(some 61), 61, (.mv (.t 9)), none, []⟩,
    ⟨(some 62), 62, (.call 11 [(.t 60), (.t 61)]), none, [0, 1]⟩,
    ⟨(some 59), 59, (.mv (.t 62)), none, [2]⟩,
    ⟨(some 63), 63, (.ext 0 (.t 59)), none, [3]⟩,
    ⟨(some 64), 64, (.ext 1 (.t 59)), none, [3]⟩,
    ⟨(some 12), 12, (.mk 27 3 [[(.s (.pv (.int .i64 0))), (.s (.pv (.int .i64 0))), (.s (.pv (.string ⟨#[]⟩)))]]), none, []⟩,
    ⟨none, 119, (.store 3 (.t 12) (.t 63)), none, [6, 4, 2, 0, 1, 2, 3, 4, 6]⟩,
    ⟨(some 13), 13, (.mv (.t 64)), none, [5, 7, 0, 1, 2, 3, 4, 5, 6, 7]⟩])
  (.seq (.seq (.reg [⟨(some 65), 65, (.mv (.t 9)), none, []⟩,
    ⟨(some 66), 66, (.fld 0 (.t 4)), none, []⟩,
    ⟨(some 67), 67, (.load false 1 (.t 66)), none, [1]⟩,
    ⟨(some 68), 68, (.bin false .neq (.t 65) (.t 67)), none, [0, 2]⟩,
    ⟨(some 69), 69, (.mv (.t 68)), none, [3]⟩,
    ⟨(some 70), 70, (.mv (.t 8)), (some (69, false)), [4]⟩,
    ⟨(some 71), 71, (.bin false .neq (.t 70) (.k (.c (.s (.pv (.int .i64 0)))))), (some (69, false)), [5, 4]⟩,
    ⟨(some 72), 72, (.pick (.t 69) (.k (.c (.s (.pv (.bool true))))) (.t 71)), none, [4, 6]⟩,
    ⟨(some 73), 73, (.mv (.t 72)), none, [7, 4]⟩,
    ⟨(some 74), 74, (.load true 3 (.t 10)), (some (73, true)), [8]⟩,
    ⟨(some 75), 75, (.load true 3 (.t 12)), (some (73, true)), [8]⟩,
    ⟨(some 76), 76, (.eqs true 27 (.t 74) (.t 75)), (some (73, true)), [9, 10, 8]⟩,
    ⟨(some 77), 77, (.mv (.t 76)), (some (73, true)), [11, 8, 8]⟩,
    ⟨(some 78), 78, (.mv (.t 11)), (some (77, false)), [12]⟩,
    ⟨(some 79), 79, (.mv (.t 13)), (some (77, false)), [12]⟩,
    ⟨(some 80), 80, (.bin false .neq (.t 78) (.t 79)), (some (77, false)), [13, 14, 12]⟩,
    ⟨(some 81), 81, (.pick (.t 77) (.k (.c (.s (.pv (.bool true))))) (.t 80)), (some (73, true)), [12, 15, 8]⟩,
    ⟨(some 82), 82, (.pick (.t 73) (.t 81) (.k (.c (.s (.pv (.bool false)))))), none, [8, 16]⟩])
  (.cond (.t 82) (.seq (.reg [⟨(some 6), 6, (.mv (.k (.c (.s (.pv (.bool false)))))), none, []⟩])
  .ret) .skip))
  (.seq (.reg [⟨(some 83), 83, (.mv (.t 9)), none, []⟩,
    ⟨(some 84), 84, (.fld 0 (.t 4)), none, []⟩,
    ⟨(some 85), 85, (.load false 1 (.t 84)), none, [1]⟩,
    ⟨(some 86), 86, (.bin false .eql (.t 83) (.t 85)), none, [0, 2]⟩,
    ⟨(some 87), 87, (.mv (.t 86)), none, [3]⟩,
    ⟨(some 88), 88, (.mv (.t 8)), (some (87, true)), [4]⟩,
    ⟨(some 89), 89, (.bin false .eql (.t 88) (.k (.c (.s (.pv (.int .i64 0)))))), (some (87, true)), [5, 4]⟩,
    ⟨(some 90), 90, (.pick (.t 87) (.t 89) (.k (.c (.s (.pv (.bool false)))))), none, [4, 6]⟩,
    ⟨(some 91), 91, (.mv (.t 90)), none, [7, 4]⟩,
    ⟨(some 92), 92, (.mv (.t 2)), (some (91, true)), [8]⟩,
    ⟨(some 93), 93, (.mv (.t 92)), (some (91, true)), [9, 8, 8]⟩,
    ⟨(some 94), 94, (.mv (.t 13)), (some (93, true)), [10]⟩,
    ⟨(some 95), 95, (.bin false .neq (.t 94) (.k (.c (.s (.pv (.int .i64 3)))))), (some (93, true)), [11, 10]⟩,
    ⟨(some 96), 96, (.pick (.t 93) (.t 95) (.k (.c (.s (.pv (.bool false)))))), (some (91, true)), [10, 12, 8]⟩,
    ⟨(some 97), 97, (.mv (.t 96)), (some (91, true)), [13, 10, 8]⟩,
    ⟨(some 98), 98, (.mv (.t 2)), (some (97, false)), [14]⟩,
    ⟨(some 99), 99, (.not (.t 98)), (some (97, false)), [15, 14]⟩,
    ⟨(some 100), 100, (.mv (.t 99)), (some (97, false)), [16, 14, 14]⟩,
    ⟨(some 101), 101, (.mv (.t 13)), (some (100, true)), [17]⟩,
    ⟨(some 102), 102, (.bin false .neq (.t 101) (.k (.c (.s (.pv (.int .i64 0)))))), (some (100, true)), [18, 17]⟩,
    ⟨(some 103), 103, (.mv (.t 102)), (some (100, true)), [19, 17, 17]⟩,
    ⟨(some 104), 104, (.load true 3 (.t 12)), (some (103, false)), [20]⟩,
    ⟨(some 105), 105, (.load true 3 (.t 4)), (some (103, false)), [20]⟩,
    ⟨(some 106), 106, (.eqs true 27 (.t 104) (.t 105)), (some (103, false)), [21, 22, 20]⟩,
    ⟨(some 107), 107, (.pick (.t 103) (.k (.c (.s (.pv (.bool true))))) (.t 106)), (some (100, true)), [20, 23, 17]⟩,
    ⟨(some 108), 108, (.pick (.t 100) (.t 107) (.k (.c (.s (.pv (.bool false)))))), (some (97, false)), [17, 24, 14]⟩,
    ⟨(some 109), 109, (.pick (.t 97) (.k (.c (.s (.pv (.bool true))))) (.t 108)), (some (91, true)), [14, 25, 8]⟩,
    ⟨(some 110), 110, (.pick (.t 91) (.t 109) (.k (.c (.s (.pv (.bool false)))))), none, [8, 26]⟩])
  (.cond (.t 110) (.seq (.reg [⟨(some 6), 6, (.mv (.k (.c (.s (.pv (.bool false)))))), none, []⟩])
  .ret) .skip))))))
  (.reg [⟨(some 51), 51, (.mv (.t 9)), none, []⟩,
    ⟨(some 52), 52, (.bin false .add (.t 51) (.k (.c (.s (.pv (.int .i64 1)))))), none, [0]⟩,
    ⟨(some 9), 9, (.mv (.t 52)), none, [1, 0, 1]⟩]))))))
  (.seq (.reg [⟨(some 111), 111, (.call 10 []), none, []⟩,
    ⟨(some 6), 6, (.mv (.t 111)), none, [0, 0, 0]⟩])
  .ret))))))
theorem fn7 : FnIs Try.prog 7 ac7 [(.t 6)] 112 := ⟨Try.f7, Try.func7, by kernel_rfl, by kernel_rfl, by kernel_rfl⟩
/- lockkeeper/lockkeeperlaw13.StoreSame -/
def ac8 : ACode := (.seq (.reg [⟨(some 1), 1, (.box 27 3 (.t 0)), none, []⟩,
    ⟨(some 2), 2, (.mv (.k (.c (.s (.pv (.bool false)))))), none, []⟩])
  (.seq (.reg [⟨(some 16), 16, (.call 24 [(.k (.c (.s (.pv (.int .i64 35)))))]), none, []⟩,
    ⟨(some 15), 15, (.mv (.t 16)), none, [0]⟩,
    ⟨(some 17), 17, (.ext 0 (.t 15)), none, [1]⟩,
    ⟨(some 18), 18, (.ext 1 (.t 15)), none, [1]⟩,
    ⟨(some 3), 3, (.mk 25 2 [[.zc, .zc]]), none, []⟩,
    ⟨none, 103, (.store 2 (.t 3) (.t 17)), none, [4, 2, 0, 0, 1, 2, 4]⟩,
    ⟨(some 4), 4, (.mv (.t 18)), none, [3, 5, 0, 1, 2, 3, 4, 5]⟩])
  (.seq (.seq (.reg [⟨(some 19), 19, (.load true 3 (.t 1)), none, []⟩,
    ⟨(some 20), 20, (.call 19 [(.t 19)]), none, [0]⟩,
    ⟨(some 21), 21, (.not (.t 20)), none, [1]⟩])
  (.cond (.t 21) (.seq (.reg [⟨(some 23), 23, (.load true 2 (.t 3)), none, []⟩,
    ⟨(some 24), 24, (.load true 3 (.t 1)), none, []⟩,
    ⟨(some 25), 25, (.call 17 [(.t 23), (.t 24)]), none, [0, 1]⟩,
    ⟨(some 22), 22, (.mv (.t 25)), none, [2]⟩,
    ⟨(some 26), 26, (.ext 0 (.t 22)), none, [3]⟩,
    ⟨(some 27), 27, (.ext 1 (.t 22)), none, [3]⟩,
    ⟨(some 5), 5, (.mk 25 2 [[.zc, .zc]]), none, []⟩,
    ⟨none, 105, (.store 2 (.t 5) (.t 26)), none, [6, 4, 2, 0, 1, 2, 3, 4, 6]⟩,
    ⟨(some 6), 6, (.mv (.t 27)), none, [5, 7, 0, 1, 2, 3, 4, 5, 6, 7]⟩])
  (.seq (.reg [⟨(some 28), 28, (.mv (.t 6)), none, []⟩,
    ⟨(some 29), 29, (.bin false .eql (.t 28) (.k (.c (.s (.pv (.int .i64 1)))))), none, [0]⟩,
    ⟨(some 30), 30, (.mv (.t 29)), none, [1]⟩,
    ⟨(some 31), 31, (.call 10 []), (some (30, true)), [2, 2]⟩,
    ⟨(some 32), 32, (.pick (.t 30) (.t 31) (.k (.c (.s (.pv (.bool false)))))), none, [2, 3]⟩,
    ⟨(some 2), 2, (.mv (.t 32)), none, [4, 3, 0, 1, 2, 3, 4]⟩])
  .ret)) .skip))
  (.seq (.reg [⟨(some 34), 34, (.load true 2 (.t 3)), none, []⟩,
    ⟨(some 35), 35, (.load true 3 (.t 1)), none, []⟩,
    ⟨(some 36), 36, (.call 17 [(.t 34), (.t 35)]), none, [0, 1]⟩,
    ⟨(some 33), 33, (.mv (.t 36)), none, [2]⟩,
    ⟨(some 37), 37, (.ext 0 (.t 33)), none, [3]⟩,
    ⟨(some 38), 38, (.ext 1 (.t 33)), none, [3]⟩,
    ⟨(some 7), 7, (.mk 25 2 [[.zc, .zc]]), none, []⟩,
    ⟨none, 105, (.store 2 (.t 7) (.t 37)), none, [6, 4, 2, 0, 1, 2, 3, 4, 6]⟩,
    ⟨(some 8), 8, (.mv (.t 38)), none, [5, 7, 0, 1, 2, 3, 4, 5, 6, 7]⟩])
  (.seq (.reg [⟨(some 40), 40, (.load true 2 (.t 7)), none, []⟩,
    ⟨(some 41), 41, (.load true 3 (.t 1)), none, []⟩,
    ⟨(some 42), 42, (.call 17 [(.t 40), (.t 41)]), none, [0, 1]⟩,
    ⟨(some 39), 39, (.mv (.t 42)), none, [2]⟩,
    ⟨(some 43), 43, (.ext 0 (.t 39)), none, [3]⟩,
    ⟨(some 44), 44, (.ext 1 (.t 39)), none, [3]⟩,
    ⟨(some 9), 9, (.mk 25 2 [[.zc, .zc]]), none, []⟩,
    ⟨none, 105, (.store 2 (.t 9) (.t 43)), none, [6, 4, 2, 0, 1, 2, 3, 4, 6]⟩,
    ⟨(some 10), 10, (.mv (.t 44)), none, [5, 7, 0, 1, 2, 3, 4, 5, 6, 7]⟩])
  (.seq (.reg [⟨(some 46), 46, (.load true 2 (.t 9)), none, []⟩,
    ⟨(some 47), 47, (.fld 0 (.t 1)), none, []⟩,
    ⟨(some 48), 48, (.load false 1 (.t 47)), none, [1]⟩,
    ⟨(some 49), 49, (.call 22 [(.t 46), (.t 48)]), none, [0, 2]⟩,
    ⟨(some 45), 45, (.mv (.t 49)), none, [3]⟩,
    ⟨(some 50), 50, (.ext 0 (.t 45)), none, [4]⟩,
    ⟨(some 51), 51, (.ext 1 (.t 45)), none, [4]⟩,
    ⟨(some 11), 11, (.mk 25 2 [[.zc, .zc]]), none, []⟩,
    ⟨none, 106, (.store 2 (.t 11) (.t 50)), none, [7, 5, 3, 0, 1, 2, 3, 4, 5, 7]⟩,
    ⟨(some 12), 12, (.mv (.t 51)), none, [6, 8, 0, 1, 2, 3, 4, 5, 6, 7, 8]⟩])
  (.seq (.reg [⟨(some 53), 53, (.load true 2 (.t 11)), none, []⟩,
    ⟨(some 54), 54, (.fld 0 (.t 1)), none, []⟩,
    ⟨(some 55), 55, (.load false 1 (.t 54)), none, [1]⟩,
    ⟨(some 56), 56, (.call 22 [(.t 53), (.t 55)]), none, [0, 2]⟩,
    ⟨(some 52), 52, (.mv (.t 56)), none, [3]⟩,
    ⟨(some 57), 57, (.ext 0 (.t 52)), none, [4]⟩,
    ⟨(some 58), 58, (.ext 1 (.t 52)), none, [4]⟩,
    ⟨(some 13), 13, (.mk 25 2 [[.zc, .zc]]), none, []⟩,
    ⟨none, 106, (.store 2 (.t 13) (.t 57)), none, [7, 5, 3, 0, 1, 2, 3, 4, 5, 7]⟩,
    ⟨(some 14), 14, (.mv (.t 58)), none, [6, 8, 0, 1, 2, 3, 4, 5, 6, 7, 8]⟩])
  (.seq (.reg [⟨(some 59), 59, (.mv (.t 8)), none, []⟩,
    ⟨(some 60), 60, (.bin false .eql (.t 59) (.k (.c (.s (.pv (.int .i64 0)))))), none, [0]⟩,
    ⟨(some 61), 61, (.mv (.t 60)), none, [1]⟩,
    ⟨(some 62), 62, (.mv (.t 10)), (some (61, true)), [2]⟩,
    ⟨(some 63), 63, (.bin false .eql (.t 62) (.k (.c (.s (.pv (.int .i64 0)))))), (some (61, true)), [3, 2]⟩,
    ⟨(some 64), 64, (.pick (.t 61) (.t 63) (.k (.c (.s (.pv (.bool false)))))), none, [2, 4]⟩,
    ⟨(some 65), 65, (.mv (.t 64)), none, [5, 2]⟩,
    ⟨(some 66), 66, (.mv (.t 12)), (some (65, true)), [6]⟩,
    ⟨(some 67), 67, (.bin false .eql (.t 66) (.k (.c (.s (.pv (.int .i64 0)))))), (some (65, true)), [7, 6]⟩,
    ⟨(some 68), 68, (.pick (.t 65) (.t 67) (.k (.c (.s (.pv (.bool false)))))), none, [6, 8]⟩,
    ⟨(some 69), 69, (.mv (.t 68)), none, [9, 6]⟩,
    ⟨(some 70), 70, (.mv (.t 14)), (some (69, true)), [10]⟩,
    ⟨(some 71), 71, (.bin false .eql (.t 70) (.k (.c (.s (.pv (.int .i64 0)))))), (some (69, true)), [11, 10]⟩,
    ⟨(some 72), 72, (.pick (.t 69) (.t 71) (.k (.c (.s (.pv (.bool false)))))), none, [10, 12]⟩,
    ⟨(some 73), 73, (.mv (.t 72)), none, [13, 10]⟩,
    ⟨(some 74), 74, (.load true 2 (.t 7)), (some (73, true)), [14]⟩,
    ⟨(some 75), 75, (.load true 2 (.t 9)), (some (73, true)), [14]⟩,
    ⟨(some 76), 76, (.call 20 [(.t 74), (.t 75)]), (some (73, true)), [15, 16, 14, 14]⟩,
    ⟨(some 77), 77, (.pick (.t 73) (.t 76) (.k (.c (.s (.pv (.bool false)))))), none, [14, 17]⟩,
    ⟨(some 78), 78, (.mv (.t 77)), none, [18, 17]⟩,
    ⟨(some 79), 79, (.load true 2 (.t 11)), (some (78, true)), [19]⟩,
    ⟨(some 80), 80, (.load true 2 (.t 13)), (some (78, true)), [19]⟩,
    ⟨(some 81), 81, (.call 20 [(.t 79), (.t 80)]), (some (78, true)), [20, 21, 19, 19]⟩,
    ⟨(some 82), 82, (.pick (.t 78) (.t 81) (.k (.c (.s (.pv (.bool false)))))), none, [19, 22]⟩,
    ⟨(some 83), 83, (.mv (.t 82)), none, [23, 22]⟩,
    ⟨(some 84), 84, (.load true 2 (.t 9)), (some (83, true)), [24]⟩,
    ⟨(some 85), 85, (.call 23 [(.t 84)]), (some (83, true)), [25, 24, 24]⟩,
    ⟨(some 86), 86, (.len (.t 85)), (some (83, true)), [26, 24]⟩,
    ⟨(some 87), 87, (.bin false .eql (.t 86) (.k (.c (.s (.pv (.int .i64 1)))))), (some (83, true)), [27, 24]⟩,
    ⟨(some 88), 88, (.pick (.t 83) (.t 87) (.k (.c (.s (.pv (.bool false)))))), none, [24, 28]⟩,
    ⟨(some 89), 89, (.mv (.t 88)), none, [29, 26]⟩,
    ⟨(some 90), 90, (.load true 2 (.t 13)), (some (89, true)), [30]⟩,
    ⟨(some 91), 91, (.call 23 [(.t 90)]), (some (89, true)), [31, 30, 30]⟩,
    ⟨(some 92), 92, (.len (.t 91)), (some (89, true)), [32, 30]⟩,
    ⟨(some 93), 93, (.bin false .eql (.t 92) (.k (.c (.s (.pv (.int .i64 0)))))), (some (89, true)), [33, 30]⟩,
    ⟨(some 94), 94, (.pick (.t 89) (.t 93) (.k (.c (.s (.pv (.bool false)))))), none, [30, 34]⟩,
    ⟨(some 95), 95, (.mv (.t 94)), none, [35, 32]⟩,
    ⟨(some 96), 96, (.call 10 []), (some (95, true)), [36, 36]⟩,
    ⟨(some 97), 97, (.pick (.t 95) (.t 96) (.k (.c (.s (.pv (.bool false)))))), none, [36, 37]⟩,
    ⟨(some 2), 2, (.mv (.t 97)), none, [38, 37, 0, 1, 2, 3, 4, 5, 6, 7, 8, 9, 10, 11, 12, 13, 14, 15, 16, 17, 18, 19, 20, 21, 22, 23, 24, 25, 26, 27, 28, 29, 30, 31, 32, 33, 34, 35, 36, 37, 38]⟩])
  .ret))))))))
theorem fn8 : FnIs Try.prog 8 ac8 [(.t 2)] 98 := ⟨Try.f8, Try.func8, by kernel_rfl, by kernel_rfl, by kernel_rfl⟩
/- lockkeeper/lockkeeperref03.Small -/
def ac9 : ACode := (.seq (.reg [⟨(some 1), 1, (.box 25 2 (.t 0)), none, []⟩,
    ⟨(some 2), 2, (.mv (.k (.c (.s (.pv (.bool false)))))), none, []⟩])
  (.seq (.seq (.reg [⟨(some 5), 5, (.fld 0 (.t 1)), none, []⟩,
    ⟨(some 6), 6, (.load false 1 (.t 5)), none, [0]⟩,
    ⟨(some 7), 7, (.len (.t 6)), none, [1]⟩,
    ⟨(some 8), 8, (.bin false .gtr (.t 7) (.k (.c (.s (.pv (.int .i64 80)))))), none, [2]⟩,
    ⟨(some 9), 9, (.mv (.t 8)), none, [3]⟩,
    ⟨(some 10), 10, (.fld 1 (.t 1)), (some (9, false)), [4]⟩,
    ⟨(some 11), 11, (.load false 1 (.t 10)), (some (9, false)), [5, 4]⟩,
    ⟨(some 12), 12, (.len (.t 11)), (some (9, false)), [6, 4]⟩,
    ⟨(some 13), 13, (.bin false .gtr (.t 12) (.k (.c (.s (.pv (.int .i64 220)))))), (some (9, false)), [7, 4]⟩,
    ⟨(some 14), 14, (.pick (.t 9) (.k (.c (.s (.pv (.bool true))))) (.t 13)), none, [4, 8]⟩])
  (.cond (.t 14) (.seq (.reg [⟨(some 2), 2, (.mv (.k (.c (.s (.pv (.bool false)))))), none, []⟩])
  .ret) .skip))
  (.seq (.seq (.reg [⟨(some 3), 3, (.mv (.k (.c (.s (.pv (.int .i64 0)))))), none, []⟩])
  (.block 0 (.loop (.seq (.seq (.reg [⟨(some 15), 15, (.mv (.t 3)), none, []⟩,
    ⟨(some 16), 16, (.fld 0 (.t 1)), none, []⟩,
    ⟨(some 17), 17, (.load false 1 (.t 16)), none, [1]⟩,
    ⟨(some 18), 18, (.len (.t 17)), none, [2]⟩,
    ⟨(some 19), 19, (.bin false .lss (.t 15) (.t 18)), none, [0, 3]⟩])
  (.cond (.t 19) .skip (.exit 0)))
  (.seq (.block 1 (.seq (.reg [⟨(some 22), 22, (.fld 0 (.t 1)), none, []⟩,
    ⟨(some 23), 23, (.load false 1 (.t 22)), none, [0]⟩,
    ⟨(some 24), 24, (.mv (.t 3)), none, []⟩,
    ⟨(some 25), 25, (.idx 1 (.t 23) (.t 24)), none, [1, 2]⟩,
    ⟨(some 26), 26, (.load false 1 (.t 25)), none, [3]⟩,
    ⟨(some 27), 27, (.slen (.t 26)), none, [4]⟩,
    ⟨(some 28), 28, (.bin false .gtr (.t 27) (.k (.c (.s (.pv (.int .i64 40)))))), none, [5]⟩])
  (.cond (.t 28) (.seq (.reg [⟨(some 2), 2, (.mv (.k (.c (.s (.pv (.bool false)))))), none, []⟩])
  .ret) .skip)))
  (.reg [⟨(some 20), 20, (.mv (.t 3)), none, []⟩,
    ⟨(some 21), 21, (.bin false .add (.t 20) (.k (.c (.s (.pv (.int .i64 1)))))), none, [0]⟩,
    ⟨(some 3), 3, (.mv (.t 21)), none, [1, 0, 1]⟩]))))))
  (.seq (.seq (.reg [⟨(some 4), 4, (.mv (.k (.c (.s (.pv (.int .i64 0)))))), none, []⟩])
  (.block 2 (.loop (.seq (.seq (.reg [⟨(some 29), 29, (.mv (.t 4)), none, []⟩,
    ⟨(some 30), 30, (.fld 1 (.t 1)), none, []⟩,
    ⟨(some 31), 31, (.load false 1 (.t 30)), none, [1]⟩,
    ⟨(some 32), 32, (.len (.t 31)), none, [2]⟩,
    ⟨(some 33), 33, (.bin false .lss (.t 29) (.t 32)), none, [0, 3]⟩])
  (.cond (.t 33) .skip (.exit 2)))
  (.seq (.block 3 (.seq (.reg [⟨(some 36), 36, (.fld 1 (.t 1)), none, []⟩,
    ⟨(some 37), 37, (.load false 1 (.t 36)), none, [0]⟩,
    ⟨(some 38), 38, (.mv (.t 4)), none, []⟩,
    ⟨(some 39), 39, (.idx 2 (.t 37) (.t 38)), none, [1, 2]⟩,
    ⟨(some 40), 40, (.fld 1 (.t 39)), none, [3]⟩,
    ⟨(some 41), 41, (.load false 1 (.t 40)), none, [4]⟩,
    ⟨(some 42), 42, (.slen (.t 41)), none, [5]⟩,
    ⟨(some 43), 43, (.bin false .gtr (.t 42) (.k (.c (.s (.pv (.int .i64 40)))))), none, [6]⟩])
  (.cond (.t 43) (.seq (.reg [⟨(some 2), 2, (.mv (.k (.c (.s (.pv (.bool false)))))), none, []⟩])
  .ret) .skip)))
  (.reg [⟨(some 34), 34, (.mv (.t 4)), none, []⟩,
    ⟨(some 35), 35, (.bin false .add (.t 34) (.k (.c (.s (.pv (.int .i64 1)))))), none, [0]⟩,
    ⟨(some 4), 4, (.mv (.t 35)), none, [1, 0, 1]⟩]))))))
  (.seq (.reg [⟨(some 2), 2, (.mv (.k (.c (.s (.pv (.bool true)))))), none, []⟩])
  .ret)))))
theorem fn9 : FnIs Try.prog 9 ac9 [(.t 2)] 44 := ⟨Try.f9, Try.func9, by kernel_rfl, by kernel_rfl, by kernel_rfl⟩
/- lockkeeper/lockkeeperlaw13.awake -/
def ac10 : ACode := (.seq (.reg [⟨(some 0), 0, (.mv (.k (.c (.s (.pv (.bool false)))))), none, []⟩])
  (.seq (.reg [⟨(some 13), 13, (.call 24 [(.k (.c (.s (.pv (.int .i64 35)))))]), none, []⟩,
    ⟨(some 12), 12, (.mv (.t 13)), none, [0]⟩,
    ⟨(some 14), 14, (.ext 0 (.t 12)), none, [1]⟩,
    ⟨(some 15), 15, (.ext 1 (.t 12)), none, [1]⟩,
    ⟨(some 1), 1, (.mk 25 2 [[.zc, .zc]]), none, []⟩,
    ⟨none, 89, (.store 2 (.t 1) (.t 14)), none, [4, 2, 0, 0, 1, 2, 4]⟩,
    ⟨(some 2), 2, (.mv (.t 15)), none, [3, 5, 0, 1, 2, 3, 4, 5]⟩])
  (.seq (.reg [⟨(some 16), 16, (.build [(.s (.pv (.int .i64 0))), (.s (.pv (.int .i64 0))), (.s (.pv (.string ⟨#[]⟩)))] [(0, 1, (.k (.c (.s (.pv (.int .i64 4)))))), (1, 1, (.k (.c (.s (.pv (.int .i64 2)))))), (2, 1, (.k (.c (.s (.pv (.string ⟨#[97, 98]⟩))))))]), none, []⟩,
    ⟨(some 3), 3, (.mk 27 3 [[(.s (.pv (.int .i64 0))), (.s (.pv (.int .i64 0))), (.s (.pv (.string ⟨#[]⟩)))]]), none, []⟩,
    ⟨none, 86, (.store 3 (.t 3) (.t 16)), none, [1, 0, 0, 1]⟩])
  (.seq (.reg [⟨(some 18), 18, (.load true 2 (.t 1)), none, []⟩,
    ⟨(some 19), 19, (.call 11 [(.t 18), (.k (.c (.s (.pv (.int .i64 4)))))]), none, [0]⟩,
    ⟨(some 17), 17, (.mv (.t 19)), none, [1]⟩,
    ⟨(some 20), 20, (.ext 0 (.t 17)), none, [2]⟩,
    ⟨(some 21), 21, (.ext 1 (.t 17)), none, [2]⟩,
    ⟨(some 4), 4, (.mk 27 3 [[(.s (.pv (.int .i64 0))), (.s (.pv (.int .i64 0))), (.s (.pv (.string ⟨#[]⟩)))]]), none, []⟩,
    ⟨none, 90, (.store 3 (.t 4) (.t 20)), none, [5, 3, 1, 0, 1, 2, 3, 5]⟩,
    ⟨(some 5), 5, (.mv (.t 21)), none, [4, 6, 0, 1, 2, 3, 4, 5, 6]⟩])
  (.seq (.reg [⟨(some 23), 23, (.load true 2 (.t 1)), none, []⟩,
    ⟨(some 24), 24, (.load true 3 (.t 3)), none, []⟩,
    ⟨(some 25), 25, (.call 17 [(.t 23), (.t 24)]), none, [0, 1]⟩,
    ⟨(some 22), 22, (.mv (.t 25)), none, [2]⟩,
    ⟨(some 26), 26, (.ext 0 (.t 22)), none, [3]⟩,
    ⟨(some 27), 27, (.ext 1 (.t 22)), none, [3]⟩,
    ⟨none, 90, (.store 2 (.t 1) (.t 26)), none, [4, 2, 0, 1, 2, 3, 4]⟩,
    ⟨(some 6), 6, (.mv (.t 27)), none, [5, 6, 0, 1, 2, 3, 4, 5, 6]⟩])
  (.seq (.reg [⟨(some 29), 29, (.load true 2 (.t 1)), none, []⟩,
    ⟨(some 30), 30, (.call 11 [(.t 29), (.k (.c (.s (.pv (.int .i64 4)))))]), none, [0]⟩,
    ⟨(some 28), 28, (.mv (.t 30)), none, [1]⟩,
    ⟨(some 31), 31, (.ext 0 (.t 28)), none, [2]⟩,
    ⟨(some 32), 32, (.ext 1 (.t 28)), none, [2]⟩,
    ⟨(some 7), 7, (.mk 27 3 [[(.s (.pv (.int .i64 0))), (.s (.pv (.int .i64 0))), (.s (.pv (.string ⟨#[]⟩)))]]), none, []⟩,
    ⟨none, 90, (.store 3 (.t 7) (.t 31)), none, [5, 3, 1, 0, 1, 2, 3, 5]⟩,
    ⟨(some 8), 8, (.mv (.t 32)), none, [4, 6, 0, 1, 2, 3, 4, 5, 6]⟩])
  (.seq (.reg [⟨(some 33), 33, (.load true 2 (.t 1)), none, []⟩,
    ⟨(some 34), 34, (.call 23 [(.t 33)]), none, [0]⟩,
    ⟨(some 9), 9, (.mv (.t 34)), none, [1, 1, 0, 1]⟩])
  (.seq (.reg [⟨(some 36), 36, (.load true 2 (.t 1)), none, []⟩,
    ⟨(some 37), 37, (.call 22 [(.t 36), (.k (.c (.s (.pv (.int .i64 4)))))]), none, [0]⟩,
    ⟨(some 35), 35, (.mv (.t 37)), none, [1]⟩,
    ⟨(some 38), 38, (.ext 0 (.t 35)), none, [2]⟩,
    ⟨(some 39), 39, (.ext 1 (.t 35)), none, [2]⟩,
    ⟨(some 10), 10, (.mk 25 2 [[.zc, .zc]]), none, []⟩,
    ⟨none, 90, (.store 2 (.t 10) (.t 38)), none, [5, 3, 1, 0, 1, 2, 3, 5]⟩,
    ⟨(some 11), 11, (.mv (.t 39)), none, [4, 6, 0, 1, 2, 3, 4, 5, 6]⟩])
  (.seq (.draw [⟨(some 40), 40, (.mv (.t 5)), none, []⟩,
    ⟨(some 41), 41, (.bin false .eql (.t 40) (.k (.c (.s (.pv (.int .i64 3)))))), none, [0]⟩,
    ⟨(some 42), 42, (.mv (.t 41)), none, [1]⟩,
    ⟨(some 43), 43, (.mv (.t 6)), (some (42, true)), [2]⟩,
    ⟨(some 44), 44, (.bin false .eql (.t 43) (.k (.c (.s (.pv (.int .i64 0)))))), (some (42, true)), [3, 2]⟩,
    ⟨(some 45), 45, (.pick (.t 42) (.t 44) (.k (.c (.s (.pv (.bool false)))))), none, [2, 4]⟩,
    ⟨(some 46), 46, (.mv (.t 45)), none, [5, 2]⟩,
    ⟨(some 47), 47, (.load true 3 (.t 7)), (some (46, true)), [6]⟩,
    ⟨(some 48), 48, (.load true 3 (.t 3)), (some (46, true)), [6]⟩,
    ⟨(some 49), 49, (.eqs false 27 (.t 47) (.t 48)), (some (46, true)), [7, 8, 6]⟩,
    ⟨(some 50), 50, (.pick (.t 46) (.t 49) (.k (.c (.s (.pv (.bool false)))))), none, [6, 9]⟩,
    ⟨(some 51), 51, (.mv (.t 50)), none, [10, 6]⟩,
    ⟨(some 52), 52, (.mv (.t 8)), (some (51, true)), [11]⟩,
    ⟨(some 53), 53, (.bin false .eql (.t 52) (.k (.c (.s (.pv (.int .i64 0)))))), (some (51, true)), [12, 11]⟩,
    ⟨(some 54), 54, (.pick (.t 51) (.t 53) (.k (.c (.s (.pv (.bool false)))))), none, [11, 13]⟩,
    ⟨(some 55), 55, (.mv (.t 54)), none, [14, 11]⟩,
    ⟨(some 56), 56, (.mv (.t 9)), (some (55, true)), [15]⟩,
    ⟨(some 57), 57, (.len (.t 56)), (some (55, true)), [16, 15]⟩,
    ⟨(some 58), 58, (.bin false .eql (.t 57) (.k (.c (.s (.pv (.int .i64 1)))))), (some (55, true)), [17, 15]⟩,
    ⟨(some 59), 59, (.pick (.t 55) (.t 58) (.k (.c (.s (.pv (.bool false)))))), none, [15, 18]⟩,
    ⟨(some 60), 60, (.mv (.t 59)), none, [19, 15]⟩,
    ⟨(some 61), 61, (.mv (.t 9)), (some (60, true)), [20]⟩,
    ⟨(some 62), 62, (.idx 3 (.t 61) (.k (.c (.s (.pv (.int .i64 0)))))), (some (60, true)), [21, 20]⟩,
    ⟨(some 63), 63, (.load true 3 (.t 62)), (some (60, true)), [22, 20]⟩,
    ⟨(some 64), 64, (.load true 3 (.t 3)), (some (60, true)), [20]⟩,
    ⟨(some 65), 65, (.eqs false 27 (.t 63) (.t 64)), (some (60, true)), [23, 24, 20]⟩,
    ⟨(some 66), 66, (.pick (.t 60) (.t 65) (.k (.c (.s (.pv (.bool false)))))), none, [20, 25]⟩,
    ⟨(some 67), 67, (.mv (.t 66)), none, [26, 20]⟩,
    ⟨(some 68), 68, (.mv (.t 11)), (some (67, true)), [27]⟩,
    ⟨(some 69), 69, (.bin false .eql (.t 68) (.k (.c (.s (.pv (.int .i64 0)))))), (some (67, true)), [28, 27]⟩,
    ⟨(some 70), 70, (.pick (.t 67) (.t 69) (.k (.c (.s (.pv (.bool false)))))), none, [27, 29]⟩,
    ⟨(some 71), 71, (.mv (.t 70)), none, [30, 27]⟩,
    ⟨(some 72), 72, (.load true 2 (.t 10)), (some (71, true)), [31]⟩,
    ⟨(some 73), 73, (.call 23 [(.t 72)]), (some (71, true)), [32, 31, 31]⟩,
    ⟨(some 74), 74, (.len (.t 73)), (some (71, true)), [33, 31]⟩,
    ⟨(some 75), 75, (.bin false .eql (.t 74) (.k (.c (.s (.pv (.int .i64 0)))))), (some (71, true)), [34, 31]⟩,
    ⟨(some 76), 76, (.pick (.t 71) (.t 75) (.k (.c (.s (.pv (.bool false)))))), none, [31, 35]⟩,
    ⟨(some 77), 77, (.mv (.t 76)), none, [36, 33]⟩,
    ⟨(some 78), 78, (.load true 2 (.t 1)), (some (77, true)), [37]⟩,
    ⟨(some 79), 79, (.load true 3 (.t 3)), (some (77, true)), [37]⟩,
    ⟨(some 80), 80, (.call 16 [(.t 78), (.t 79)]), (some (77, true)), [38, 39, 37, 37]⟩,
    ⟨(some 81), 81, (.len (.t 80)), (some (77, true)), [40, 37]⟩,
    ⟨(some 82), 82, (.bin false .eql (.t 81) (.k (.c (.s (.pv (.int .i64 10)))))), (some (77, true)), [41, 37]⟩,
    ⟨(some 83), 83, (.pick (.t 77) (.t 82) (.k (.c (.s (.pv (.bool false)))))), none, [37, 42]⟩,
    ⟨(some 0), 0, (.mv (.t 83)), none, [43, 40, 0, 1, 2, 3, 4, 5, 6, 7, 8, 9, 10, 11, 12, 13, 14, 15, 16, 17, 18, 19, 20, 21, 22, 23, 24, 25, 26, 27, 28, 29, 30, 31, 32, 33, 34, 35, 36, 37, 38, 39, 40, 41, 42, 43]⟩])
  .ret)))))))))
theorem fn10 : FnIs Try.prog 10 ac10 [(.t 0)] 84 := ⟨Try.f10, Try.func10, by kernel_rfl, by kernel_rfl, by kernel_rfl⟩
/- lockkeeper/store.Get -/
def ac11 : ACode := (.seq (.reg [⟨(some 2), 2, (.box 25 2 (.t 0)), none, []⟩,
    ⟨(some 4), 4, (.mk 27 3 [[(.s (.pv (.int .i64 0))), (.s (.pv (.int .i64 0))), (.s (.pv (.string ⟨#[]⟩)))]]), none, []⟩,
    ⟨(some 5), 5, (.mv (.k (.c (.s (.pv (.int .i64 0)))))), none, []⟩])
  (.seq (.reg [⟨(some 10), 10, (.load true 2 (.t 2)), none, []⟩,
    ⟨(some 11), 11, (.mv (.t 1)), none, []⟩,
    ⟨(some 12), 12, (.call 28 [(.t 10), (.t 11)]), none, [0, 1]⟩,
    ⟨(some 9), 9, (.mv (.t 12)), none, [2]⟩,
    ⟨(some 13), 13, (.ext 0 (.t 9)), none, [3]⟩,
    ⟨(some 14), 14, (.ext 1 (.t 9)), none, [3]⟩,
    ⟨(some 6), 6, (.mv (.t 13)), none, [4, 2, 0, 1, 2, 3, 4]⟩,
    ⟨(some 7), 7, (.mv (.t 14)), none, [5, 6, 0, 1, 2, 3, 4, 5, 6]⟩])
  (.seq (.seq (.reg [⟨(some 15), 15, (.mv (.t 7)), none, []⟩,
    ⟨(some 16), 16, (.bin false .neq (.t 15) (.k (.c (.s (.pv (.int .i64 0)))))), none, [0]⟩])
  (.cond (.t 16) (.seq (.reg [⟨(some 17), 17, (.build [(.s (.pv (.int .i64 0))), (.s (.pv (.int .i64 0))), (.s (.pv (.string ⟨#[]⟩)))] []), none, []⟩,
    ⟨(some 18), 18, (.mv (.t 7)), none, []⟩,
    ⟨none, 36, (.store 3 (.t 4) (.t 17)), none, [0, 0]⟩,
    ⟨(some 5), 5, (.mv (.t 18)), none, [1, 2, 0, 1, 2]⟩])
  .ret) .skip))
  (.seq (.reg [⟨(some 20), 20, (.mv (.t 6)), none, []⟩,
    ⟨(some 21), 21, (.call 29 [(.t 20)]), none, [0]⟩,
    ⟨(some 19), 19, (.mv (.t 21)), none, [1]⟩,
    ⟨(some 22), 22, (.ext 0 (.t 19)), none, [2]⟩,
    ⟨(some 23), 23, (.ext 1 (.t 19)), none, [2]⟩,
    ⟨(some 8), 8, (.mk 27 3 [[(.s (.pv (.int .i64 0))), (.s (.pv (.int .i64 0))), (.s (.pv (.string ⟨#[]⟩)))]]), none, []⟩,
    ⟨none, 40, (.store 3 (.t 8) (.t 22)), none, [5, 3, 1, 0, 1, 2, 3, 5]⟩,
    ⟨(some 7), 7, (.mv (.t 23)), none, [4, 6, 0, 1, 2, 3, 4, 5, 6]⟩])
  (.seq (.seq (.reg [⟨(some 24), 24, (.mv (.t 7)), none, []⟩,
    ⟨(some 25), 25, (.bin false .neq (.t 24) (.k (.c (.s (.pv (.int .i64 0)))))), none, [0]⟩])
  (.cond (.t 25) (.seq (.reg [⟨(some 26), 26, (.build [(.s (.pv (.int .i64 0))), (.s (.pv (.int .i64 0))), (.s (.pv (.string ⟨#[]⟩)))] []), none, []⟩,
    ⟨(some 27), 27, (.mv (.t 7)), none, []⟩,
    ⟨none, 36, (.store 3 (.t 4) (.t 26)), none, [0, 0]⟩,
    ⟨(some 5), 5, (.mv (.t 27)), none, [1, 2, 0, 1, 2]⟩])
  .ret) .skip))
  (.seq (.seq (.reg [⟨(some 28), 28, (.fld 0 (.t 8)), none, []⟩,
    ⟨(some 29), 29, (.load false 1 (.t 28)), none, [0]⟩,
    ⟨(some 30), 30, (.mv (.t 1)), none, []⟩,
    ⟨(some 31), 31, (.bin false .neq (.t 29) (.t 30)), none, [1, 2]⟩])
  (.cond (.t 31) (.seq (.reg [⟨(some 32), 32, (.build [(.s (.pv (.int .i64 0))), (.s (.pv (.int .i64 0))), (.s (.pv (.string ⟨#[]⟩)))] []), none, []⟩,
    ⟨none, 35, (.store 3 (.t 4) (.t 32)), none, [0, 0]⟩,
    ⟨(some 5), 5, (.mv (.k (.c (.s (.pv (.int .i64 9)))))), none, [1, 0, 1]⟩])
  .ret) .skip))
  (.seq (.reg [⟨(some 33), 33, (.load true 3 (.t 8)), none, []⟩,
    ⟨none, 35, (.store 3 (.t 4) (.t 33)), none, [0, 0]⟩,
    ⟨(some 5), 5, (.mv (.k (.c (.s (.pv (.int .i64 0)))))), none, [1, 0, 1]⟩])
  .ret)))))))
theorem fn11 : FnIs Try.prog 11 ac11 [(.cell 4 true 3), (.t 5)] 34 := ⟨Try.f11, Try.func11, by kernel_rfl, by kernel_rfl, by kernel_rfl⟩
/- lockkeeper/lockkeeperref13.Get -/
def ac12 : ACode := (.seq (.reg [⟨(some 2), 2, (.box 25 2 (.t 0)), none, []⟩,
    ⟨(some 4), 4, (.mk 27 3 [[(.s (.pv (.int .i64 0))), (.s (.pv (.int .i64 0))), (.s (.pv (.string ⟨#[]⟩)))]]), none, []⟩,
    ⟨(some 5), 5, (.mv (.k (.c (.s (.pv (.int .i64 0)))))), none, []⟩])
  (.seq (.seq (.reg [⟨(some 8), 8, (.load true 2 (.t 2)), none, []⟩,
    ⟨(some 9), 9, (.call 18 [(.t 8)]), none, [0]⟩,
    ⟨(some 10), 10, (.not (.t 9)), none, [1]⟩,
    ⟨(some 11), 11, (.mv (.t 10)), none, [2, 1]⟩,
    ⟨(some 12), 12, (.mv (.t 1)), (some (11, false)), [3]⟩,
    ⟨(some 13), 13, (.bin false .lss (.t 12) (.k (.c (.s (.pv (.int .i64 1)))))), (some (11, false)), [4, 3]⟩,
    ⟨(some 14), 14, (.pick (.t 11) (.k (.c (.s (.pv (.bool true))))) (.t 13)), none, [3, 5]⟩,
    ⟨(some 15), 15, (.mv (.t 14)), none, [6, 3]⟩,
    ⟨(some 16), 16, (.mv (.t 1)), (some (15, false)), [7]⟩,
    ⟨(some 17), 17, (.bin false .gtr (.t 16) (.k (.c (.s (.pv (.int .i64 16)))))), (some (15, false)), [8, 7]⟩,
    ⟨(some 18), 18, (.pick (.t 15) (.k (.c (.s (.pv (.bool true))))) (.t 17)), none, [7, 9]⟩])
  (.cond (.t 18) (.seq (.reg [⟨(some 19), 19, (.build [(.s (.pv (.int .i64 0))), (.s (.pv (.int .i64 0))), (.s (.pv (.string ⟨#[]⟩)))] []), none, []⟩,
    ⟨none, 38, (.store 3 (.t 4) (.t 19)), none, [0, 0]⟩,
    ⟨(some 5), 5, (.mv (.k (.c (.s (.pv (.int .i64 1)))))), none, [1, 0, 1]⟩])
  .ret) .skip))
  (.seq (.reg [⟨(some 21), 21, (.load true 2 (.t 2)), none, []⟩,
    ⟨(some 22), 22, (.mv (.t 1)), none, []⟩,
    ⟨(some 23), 23, (.call 31 [(.t 21), (.t 22)]), none, [0, 1]⟩,
    ⟨(some 24), 24, (.call 30 [(.t 23)]), none, [2, 2]⟩,
    ⟨(some 20), 20, (.mv (.t 24)), none, [3]⟩,
    ⟨(some 25), 25, (.ext 0 (.t 20)), none, [4]⟩,
    ⟨(some 26), 26, (.ext 1 (.t 20)), none, [4]⟩,
    ⟨(some 6), 6, (.mk 27 3 [[(.s (.pv (.int .i64 0))), (.s (.pv (.int .i64 0))), (.s (.pv (.string ⟨#[]⟩)))]]), none, []⟩,
    ⟨none, 45, (.store 3 (.t 6) (.t 25)), none, [7, 5, 3, 0, 1, 2, 3, 4, 5, 7]⟩,
    ⟨(some 7), 7, (.mv (.t 26)), none, [6, 8, 0, 1, 2, 3, 4, 5, 6, 7, 8]⟩])
  (.seq (.seq (.reg [⟨(some 27), 27, (.mv (.t 7)), none, []⟩,
    ⟨(some 28), 28, (.bin false .neq (.t 27) (.k (.c (.s (.pv (.int .i64 0)))))), none, [0]⟩])
  (.cond (.t 28) (.seq (.reg [⟨(some 29), 29, (.build [(.s (.pv (.int .i64 0))), (.s (.pv (.int .i64 0))), (.s (.pv (.string ⟨#[]⟩)))] []), none, []⟩,
    ⟨(some 30), 30, (.mv (.t 7)), none, []⟩,
    ⟨none, 39, (.store 3 (.t 4) (.t 29)), none, [0, 0]⟩,
    ⟨(some 5), 5, (.mv (.t 30)), none, [1, 2, 0, 1, 2]⟩])
  .ret) .skip))
  (.seq (.seq (.reg [⟨(some 31), 31, (.fld 0 (.t 6)), none, []⟩,
    ⟨(some 32), 32, (.load false 1 (.t 31)), none, [0]⟩,
    ⟨(some 33), 33, (.mv (.t 1)), none, []⟩,
    ⟨(some 34), 34, (.bin false .neq (.t 32) (.t 33)), none, [1, 2]⟩])
  (.cond (.t 34) (.seq (.reg [⟨(some 35), 35, (.build [(.s (.pv (.int .i64 0))), (.s (.pv (.int .i64 0))), (.s (.pv (.string ⟨#[]⟩)))] []), none, []⟩,
    ⟨none, 38, (.store 3 (.t 4) (.t 35)), none, [0, 0]⟩,
    ⟨(some 5), 5, (.mv (.k (.c (.s (.pv (.int .i64 9)))))), none, [1, 0, 1]⟩])
  .ret) .skip))
  (.seq (.reg [⟨(some 36), 36, (.load true 3 (.t 6)), none, []⟩,
    ⟨none, 38, (.store 3 (.t 4) (.t 36)), none, [0, 0]⟩,
    ⟨(some 5), 5, (.mv (.k (.c (.s (.pv (.int .i64 0)))))), none, [1, 0, 1]⟩])
  .ret))))))
theorem fn12 : FnIs Try.prog 12 ac12 [(.cell 4 true 3), (.t 5)] 37 := ⟨Try.f12, Try.func12, by kernel_rfl, by kernel_rfl, by kernel_rfl⟩
/- lockkeeper/lockkeeperref13.Steps -/
def ac13 : ACode := (.seq (.reg [⟨(some 2), 2, (.box 25 2 (.t 0)), none, []⟩,
    ⟨(some 3), 3, (.box 27 3 (.t 1)), none, []⟩,
    ⟨(some 4), 4, (.mv (.k (.c .zc))), none, []⟩])
  (.seq (.seq (.reg [⟨(some 5), 5, (.load true 2 (.t 2)), none, []⟩,
    ⟨(some 6), 6, (.call 18 [(.t 5)]), none, [0]⟩,
    ⟨(some 7), 7, (.not (.t 6)), none, [1]⟩,
    ⟨(some 8), 8, (.mv (.t 7)), none, [2, 1]⟩,
    ⟨(some 9), 9, (.fld 0 (.t 3)), (some (8, false)), [3]⟩,
    ⟨(some 10), 10, (.load false 1 (.t 9)), (some (8, false)), [4, 3]⟩,
    ⟨(some 11), 11, (.bin false .lss (.t 10) (.k (.c (.s (.pv (.int .i64 1)))))), (some (8, false)), [5, 3]⟩,
    ⟨(some 12), 12, (.pick (.t 8) (.k (.c (.s (.pv (.bool true))))) (.t 11)), none, [3, 6]⟩,
    ⟨(some 13), 13, (.mv (.t 12)), none, [7, 3]⟩,
    ⟨(some 14), 14, (.fld 0 (.t 3)), (some (13, false)), [8]⟩,
    ⟨(some 15), 15, (.load false 1 (.t 14)), (some (13, false)), [9, 8]⟩,
    ⟨(some 16), 16, (.bin false .gtr (.t 15) (.k (.c (.s (.pv (.int .i64 16)))))), (some (13, false)), [10, 8]⟩,
    ⟨(some 17), 17, (.pick (.t 13) (.k (.c (.s (.pv (.bool true))))) (.t 16)), none, [8, 11]⟩])
  (.cond (.t 17) (.seq (.reg [⟨(some 4), 4, (.mv (.k (.c .zc))), none, []⟩])
  .ret) .skip))
  (.seq (.seq (.reg [⟨(some 18), 18, (.fld 1 (.t 3)), none, []⟩,
    ⟨(some 19), 19, (.load false 1 (.t 18)), none, [0]⟩,
    ⟨(some 20), 20, (.bin false .eql (.t 19) (.k (.c (.s (.pv (.int .i64 0)))))), none, [1]⟩,
    ⟨(some 21), 21, (.mv (.t 20)), none, [2]⟩,
    ⟨(some 22), 22, (.fld 2 (.t 3)), (some (21, true)), [3]⟩,
    ⟨(some 23), 23, (.load false 1 (.t 22)), (some (21, true)), [4, 3]⟩,
    ⟨(some 24), 24, (.bin false .eql (.t 23) (.k (.c (.s (.pv (.string ⟨#[]⟩)))))), (some (21, true)), [5, 3]⟩,
    ⟨(some 25), 25, (.pick (.t 21) (.t 24) (.k (.c (.s (.pv (.bool false)))))), none, [3, 6]⟩])
  (.cond (.t 25) (.seq (.draw [⟨(some 26), 26, (.fld 0 (.t 3)), none, []⟩,
    ⟨(some 27), 27, (.load false 1 (.t 26)), none, [0]⟩,
    ⟨(some 28), 28, (.call 33 []), none, []⟩,
    ⟨(some 29), 29, (.call 32 [(.t 27), (.t 28)]), none, [1, 2, 2]⟩,
    ⟨(some 4), 4, (.mv (.t 29)), none, [3, 3, 0, 1, 2, 3]⟩])
  .ret) .skip))
  (.seq (.seq (.reg [⟨(some 30), 30, (.load true 3 (.t 3)), none, []⟩,
    ⟨(some 31), 31, (.call 19 [(.t 30)]), none, [0]⟩,
    ⟨(some 32), 32, (.not (.t 31)), none, [1]⟩])
  (.cond (.t 32) (.seq (.reg [⟨(some 4), 4, (.mv (.k (.c .zc))), none, []⟩])
  .ret) .skip))
  (.seq (.draw [⟨(some 33), 33, (.fld 0 (.t 3)), none, []⟩,
    ⟨(some 34), 34, (.load false 1 (.t 33)), none, [0]⟩,
    ⟨(some 35), 35, (.load true 3 (.t 3)), none, []⟩,
    ⟨(some 36), 36, (.call 34 [(.t 35)]), none, [2]⟩,
    ⟨(some 37), 37, (.call 32 [(.t 34), (.t 36)]), none, [1, 3, 3]⟩,
    ⟨(some 4), 4, (.mv (.t 37)), none, [4, 4, 0, 1, 2, 3, 4]⟩])
  .ret)))))
theorem fn13 : FnIs Try.prog 13 ac13 [(.t 4)] 38 := ⟨Try.f13, Try.func13, by kernel_rfl, by kernel_rfl, by kernel_rfl⟩
/- lockkeeper/lockkeeperref12.Same -/
def ac14 : ACode := (.seq (.reg [⟨(some 4), 4, (.mv (.k (.c (.s (.pv (.bool false)))))), none, []⟩])
  (.seq (.seq (.reg [⟨(some 6), 6, (.mv (.t 0)), none, []⟩,
    ⟨(some 7), 7, (.len (.t 6)), none, [0]⟩,
    ⟨(some 8), 8, (.mv (.t 1)), none, []⟩,
    ⟨(some 9), 9, (.len (.t 8)), none, [2]⟩,
    ⟨(some 10), 10, (.bin false .neq (.t 7) (.t 9)), none, [1, 3]⟩])
  (.cond (.t 10) (.seq (.reg [⟨(some 4), 4, (.mv (.k (.c (.s (.pv (.bool false)))))), none, []⟩])
  .ret) .skip))
  (.seq (.seq (.reg [⟨(some 5), 5, (.mv (.k (.c (.s (.pv (.int .i64 0)))))), none, []⟩])
  (.block 0 (.loop (.seq (.seq (.reg [⟨(some 11), 11, (.mv (.t 5)), none, []⟩,
    ⟨(some 12), 12, (.mv (.t 0)), none, []⟩,
    ⟨(some 13), 13, (.len (.t 12)), none, [1]⟩,
    ⟨(some 14), 14, (.bin false .lss (.t 11) (.t 13)), none, [0, 2]⟩])
  (.cond (.t 14) .skip (.exit 0)))
  (.seq (.block 1 (.seq (.draw [⟨(some 17), 17, (.mv (.t 0)), none, []⟩,
    ⟨(some 18), 18, (.mv (.t 5)), none, []⟩,
    ⟨(some 19), 19, (.idx 3 (.t 17) (.t 18)), none, [0, 1]⟩,
    ⟨(some 20), 20, (.load true 3 (.t 19)), none, [2]⟩,
    ⟨(some 21), 21, (.mv (.t 1)), none, []⟩,
    ⟨(some 22), 22, (.mv (.t 5)), none, []⟩,
    ⟨(some 23), 23, (.idx 3 (.t 21) (.t 22)), none, [4, 5]⟩,
    ⟨(some 24), 24, (.load true 3 (.t 23)), none, [6]⟩,
    ⟨(some 25), 25, (.eqs true 70 (.t 20) (.t 24)), none, [3, 7]⟩])
  (.cond (.t 25) (.seq (.reg [⟨(some 4), 4, (.mv (.k (.c (.s (.pv (.bool false)))))), none, []⟩])
  .ret) .skip)))
  (.reg [⟨(some 15), 15, (.mv (.t 5)), none, []⟩,
    ⟨(some 16), 16, (.bin false .add (.t 15) (.k (.c (.s (.pv (.int .i64 1)))))), none, [0]⟩,
    ⟨(some 5), 5, (.mv (.t 16)), none, [1, 0, 1]⟩]))))))
  (.seq (.reg [⟨(some 4), 4, (.mv (.k (.c (.s (.pv (.bool true)))))), none, []⟩])
  .ret))))
theorem fn14 : FnIs Try.prog 14 ac14 [(.t 4)] 26 := ⟨Try.f14, Try.func14, by kernel_rfl, by kernel_rfl, by kernel_rfl⟩
/- lockkeeper/lockkeeperlaw13.refs -/
def ac15 : ACode := (.seq (.reg [⟨(some 2), 2, (.mv (.k (.c .zc))), none, []⟩])
  (.seq (.reg [⟨(some 3), 3, (.mv (.k (.c .zc))), none, []⟩])
  (.seq (.seq (.reg [⟨(some 6), 6, (.mv (.t 0)), none, []⟩,
    ⟨(some 7), 7, (.len (.t 6)), none, [0]⟩,
    ⟨(some 8), 8, (.mv (.k (.c (.s (.pv (.int .i64 0)))))), none, []⟩])
  (.block 0 (.loop (.seq (.reg [⟨(some 9), 9, (.bin false .lss (.t 8) (.t 7)), none, []⟩])
  (.seq (.cond (.t 9) .skip (.exit 0))
  (.seq (.block 1 (.seq (.reg [⟨(some 10), 10, (.idx 3 (.t 6) (.t 8)), none, []⟩,
    ⟨(some 11), 11, (.load true 3 (.t 10)), none, [0]⟩,
    ⟨(some 5), 5, (.mk 71 3 [[(.s (.pv (.bool false))), (.s (.pv (.int .i64 0))), (.s (.pv (.string ⟨#[]⟩)))]]), none, []⟩,
    ⟨none, 21, (.store 3 (.t 5) (.t 11)), none, [2, 1, 0, 1, 2]⟩])
  (.reg [⟨(some 12), 12, (.mv (.t 3)), none, []⟩,
    ⟨(some 13), 13, (.load true 3 (.t 5)), none, []⟩,
    ⟨(some 14), 14, (.bslice 70 3 [(.s (.pv (.bool false))), (.s (.pv (.int .i64 0))), (.s (.pv (.string ⟨#[]⟩)))] 1 [(0, 3, (.t 13))]), none, [1]⟩,
    ⟨(some 15), 15, (.app 70 3 32 (.t 12) (.t 14)), none, [0, 2]⟩,
    ⟨(some 3), 3, (.mv (.t 15)), none, [3, 3, 0, 1, 2, 3]⟩])))
  (.reg [⟨(some 16), 16, (.bin false .add (.t 8) (.k (.c (.s (.pv (.int .i64 1)))))), none, []⟩,
    ⟨(some 8), 8, (.mv (.t 16)), none, [0]⟩])))))))
  (.seq (.reg [⟨(some 17), 17, (.mv (.t 3)), none, []⟩,
    ⟨(some 2), 2, (.mv (.t 17)), none, [0, 0]⟩])
  .ret))))
theorem fn15 : FnIs Try.prog 15 ac15 [(.t 2)] 18 := ⟨Try.f15, Try.func15, by kernel_rfl, by kernel_rfl, by kernel_rfl⟩
/- lockkeeper/store.Steps -/
def ac16 : ACode := (.seq (.reg [⟨(some 2), 2, (.box 25 2 (.t 0)), none, []⟩,
    ⟨(some 3), 3, (.box 27 3 (.t 1)), none, []⟩,
    ⟨(some 4), 4, (.mv (.k (.c .zc))), none, []⟩])
  (.seq (.reg [⟨(some 9), 9, (.call 35 []), none, []⟩,
    ⟨(some 5), 5, (.mv (.t 9)), none, [0, 0, 0]⟩])
  (.seq (.seq (.reg [⟨(some 10), 10, (.fld 1 (.t 3)), none, []⟩,
    ⟨(some 11), 11, (.load false 1 (.t 10)), none, [0]⟩,
    ⟨(some 12), 12, (.bin false .neq (.t 11) (.k (.c (.s (.pv (.int .i64 0)))))), none, [1]⟩,
    ⟨(some 13), 13, (.mv (.t 12)), none, [2]⟩,
    ⟨(some 14), 14, (.fld 2 (.t 3)), (some (13, false)), [3]⟩,
    ⟨(some 15), 15, (.load false 1 (.t 14)), (some (13, false)), [4, 3]⟩,
    ⟨(some 16), 16, (.bin false .neq (.t 15) (.k (.c (.s (.pv (.string ⟨#[]⟩)))))), (some (13, false)), [5, 3]⟩,
    ⟨(some 17), 17, (.pick (.t 13) (.k (.c (.s (.pv (.bool true))))) (.t 16)), none, [3, 6]⟩])
  (.cond (.t 17) (.seq (.reg [⟨(some 6), 6, (.mv (.k (.c (.s (.pv (.int .i64 0)))))), none, []⟩])
  (.seq (.reg [⟨(some 19), 19, (.load true 3 (.t 3)), none, []⟩,
    ⟨(some 20), 20, (.call 36 [(.t 19)]), none, [0]⟩,
    ⟨(some 18), 18, (.mv (.t 20)), none, [1]⟩,
    ⟨(some 21), 21, (.ext 0 (.t 18)), none, [2]⟩,
    ⟨(some 22), 22, (.ext 1 (.t 18)), none, [2]⟩,
    ⟨(some 5), 5, (.mv (.t 21)), none, [3, 1, 0, 1, 2, 3]⟩,
    ⟨(some 6), 6, (.mv (.t 22)), none, [4, 5, 0, 1, 2, 3, 4, 5]⟩])
  (.seq (.reg [⟨(some 23), 23, (.mv (.t 6)), none, []⟩,
    ⟨(some 24), 24, (.bin false .neq (.t 23) (.k (.c (.s (.pv (.int .i64 0)))))), none, [0]⟩])
  (.cond (.t 24) (.seq (.reg [⟨(some 4), 4, (.mv (.k (.c .zc))), none, []⟩])
  .ret) .skip)))) .skip))
  (.seq (.reg [⟨(some 26), 26, (.load true 2 (.t 2)), none, []⟩,
    ⟨(some 27), 27, (.fld 0 (.t 3)), none, []⟩,
    ⟨(some 28), 28, (.load false 1 (.t 27)), none, [1]⟩,
    ⟨(some 29), 29, (.mv (.t 5)), none, []⟩,
    ⟨(some 30), 30, (.call 37 [(.t 26), (.t 28), (.t 29)]), none, [0, 2, 3]⟩,
    ⟨(some 25), 25, (.mv (.t 30)), none, [4]⟩,
    ⟨(some 31), 31, (.ext 0 (.t 25)), none, [5]⟩,
    ⟨(some 32), 32, (.ext 1 (.t 25)), none, [5]⟩,
    ⟨(some 7), 7, (.mv (.t 31)), none, [6, 4, 0, 1, 2, 3, 4, 5, 6]⟩,
    ⟨(some 8), 8, (.mv (.t 32)), none, [7, 8, 0, 1, 2, 3, 4, 5, 6, 7, 8]⟩])
  (.seq (.reg [⟨(some 33), 33, (.mv (.t 7)), none, []⟩,
    ⟨(some 4), 4, (.mv (.t 33)), none, [0, 0]⟩])
  .ret)))))
theorem fn16 : FnIs Try.prog 16 ac16 [(.t 4)] 34 := ⟨Try.f16, Try.func16, by kernel_rfl, by kernel_rfl, by kernel_rfl⟩
/- lockkeeper/store.Set -/
def ac17 : ACode := (.seq (.reg [⟨(some 2), 2, (.box 25 2 (.t 0)), none, []⟩,
    ⟨(some 3), 3, (.box 27 3 (.t 1)), none, []⟩,
    ⟨(some 4), 4, (.mk 25 2 [[.zc, .zc]]), none, []⟩,
    ⟨(some 5), 5, (.mv (.k (.c (.s (.pv (.int .i64 0)))))), none, []⟩])
  (.seq (.reg [⟨(some 9), 9, (.load true 3 (.t 3)), none, []⟩,
    ⟨(some 10), 10, (.call 36 [(.t 9)]), none, [0]⟩,
    ⟨(some 8), 8, (.mv (.t 10)), none, [1]⟩,
    ⟨(some 11), 11, (.ext 0 (.t 8)), none, [2]⟩,
    ⟨(some 12), 12, (.ext 1 (.t 8)), none, [2]⟩,
    ⟨(some 6), 6, (.mv (.t 11)), none, [3, 1, 0, 1, 2, 3]⟩,
    ⟨(some 7), 7, (.mv (.t 12)), none, [4, 5, 0, 1, 2, 3, 4, 5]⟩])
  (.seq (.seq (.reg [⟨(some 13), 13, (.mv (.t 7)), none, []⟩,
    ⟨(some 14), 14, (.bin false .neq (.t 13) (.k (.c (.s (.pv (.int .i64 0)))))), none, [0]⟩])
  (.cond (.t 14) (.seq (.reg [⟨(some 15), 15, (.load true 2 (.t 2)), none, []⟩,
    ⟨(some 16), 16, (.mv (.t 7)), none, []⟩,
    ⟨none, 26, (.store 2 (.t 4) (.t 15)), none, [0, 0]⟩,
    ⟨(some 5), 5, (.mv (.t 16)), none, [1, 2, 0, 1, 2]⟩])
  .ret) .skip))
  (.seq (.reg [⟨(some 17), 17, (.load true 2 (.t 2)), none, []⟩,
    ⟨(some 18), 18, (.fld 0 (.t 3)), none, []⟩,
    ⟨(some 19), 19, (.load false 1 (.t 18)), none, [1]⟩,
    ⟨(some 20), 20, (.mv (.t 6)), none, []⟩,
    ⟨(some 21), 21, (.call 38 [(.t 17), (.t 19), (.t 20)]), none, [0, 2, 3]⟩,
    ⟨(some 22), 22, (.ext 0 (.t 21)), none, [4]⟩,
    ⟨(some 23), 23, (.ext 1 (.t 21)), none, [4]⟩,
    ⟨none, 31, (.store 2 (.t 4) (.t 22)), none, [5, 4, 0, 1, 2, 3, 4, 5, 6]⟩,
    ⟨(some 5), 5, (.mv (.t 23)), none, [6, 7, 0, 1, 2, 3, 4, 5, 6, 7]⟩])
  .ret))))
theorem fn17 : FnIs Try.prog 17 ac17 [(.cell 4 true 2), (.t 5)] 24 := ⟨Try.f17, Try.func17, by kernel_rfl, by kernel_rfl, by kernel_rfl⟩
/- lockkeeper/lockkeeperref12.May -/
def ac18 : ACode := (.seq (.reg [⟨(some 1), 1, (.box 25 2 (.t 0)), none, []⟩,
    ⟨(some 2), 2, (.mv (.k (.c (.s (.pv (.bool false)))))), none, []⟩])
  (.seq (.reg [⟨(some 3), 3, (.load true 2 (.t 1)), none, []⟩,
    ⟨(some 4), 4, (.call 39 [(.t 3)]), none, [0]⟩,
    ⟨(some 5), 5, (.mv (.t 4)), none, [1, 1]⟩,
    ⟨(some 6), 6, (.fld 0 (.t 1)), (some (5, true)), [2]⟩,
    ⟨(some 7), 7, (.load false 1 (.t 6)), (some (5, true)), [3, 2]⟩,
    ⟨(some 8), 8, (.len (.t 7)), (some (5, true)), [4, 2]⟩,
    ⟨(some 9), 9, (.bin false .gtr (.t 8) (.k (.c (.s (.pv (.int .i64 34)))))), (some (5, true)), [5, 2]⟩,
    ⟨(some 10), 10, (.pick (.t 5) (.t 9) (.k (.c (.s (.pv (.bool false)))))), none, [2, 6]⟩,
    ⟨(some 2), 2, (.mv (.t 10)), none, [7, 2, 0, 1, 2, 3, 4, 5, 6, 7]⟩])
  .ret))
theorem fn18 : FnIs Try.prog 18 ac18 [(.t 2)] 11 := ⟨Try.f18, Try.func18, by kernel_rfl, by kernel_rfl, by kernel_rfl⟩
/- lockkeeper/lockkeeperref02.Right -/
def ac19 : ACode := (.seq (.reg [⟨(some 1), 1, (.box 27 3 (.t 0)), none, []⟩,
    ⟨(some 2), 2, (.mv (.k (.c (.s (.pv (.bool false)))))), none, []⟩])
  (.seq (.reg [⟨(some 3), 3, (.fld 0 (.t 1)), none, []⟩,
    ⟨(some 4), 4, (.load false 1 (.t 3)), none, [0]⟩,
    ⟨(some 5), 5, (.bin false .gtr (.t 4) (.k (.c (.s (.pv (.int .i64 0)))))), none, [1]⟩,
    ⟨(some 6), 6, (.mv (.t 5)), none, [2]⟩,
    ⟨(some 7), 7, (.fld 0 (.t 1)), (some (6, true)), [3]⟩,
    ⟨(some 8), 8, (.load false 1 (.t 7)), (some (6, true)), [4, 3]⟩,
    ⟨(some 9), 9, (.bin false .lss (.t 8) (.k (.c (.s (.pv (.int .i64 17)))))), (some (6, true)), [5, 3]⟩,
    ⟨(some 10), 10, (.pick (.t 6) (.t 9) (.k (.c (.s (.pv (.bool false)))))), none, [3, 6]⟩,
    ⟨(some 11), 11, (.mv (.t 10)), none, [7, 3]⟩,
    ⟨(some 12), 12, (.fld 1 (.t 1)), (some (11, true)), [8]⟩,
    ⟨(some 13), 13, (.load false 1 (.t 12)), (some (11, true)), [9, 8]⟩,
    ⟨(some 14), 14, (.bin false .gtr (.t 13) (.k (.c (.s (.pv (.int .i64 0)))))), (some (11, true)), [10, 8]⟩,
    ⟨(some 15), 15, (.pick (.t 11) (.t 14) (.k (.c (.s (.pv (.bool false)))))), none, [8, 11]⟩,
    ⟨(some 16), 16, (.mv (.t 15)), none, [12, 8]⟩,
    ⟨(some 17), 17, (.fld 1 (.t 1)), (some (16, true)), [13]⟩,
    ⟨(some 18), 18, (.load false 1 (.t 17)), (some (16, true)), [14, 13]⟩,
    ⟨(some 19), 19, (.bin false .lss (.t 18) (.k (.c (.s (.pv (.int .i64 2147483648)))))), (some (16, true)), [15, 13]⟩,
    ⟨(some 20), 20, (.pick (.t 16) (.t 19) (.k (.c (.s (.pv (.bool false)))))), none, [13, 16]⟩,
    ⟨(some 21), 21, (.mv (.t 20)), none, [17, 13]⟩,
    ⟨(some 22), 22, (.fld 2 (.t 1)), (some (21, true)), [18]⟩,
    ⟨(some 23), 23, (.load false 1 (.t 22)), (some (21, true)), [19, 18]⟩,
    ⟨(some 24), 24, (.slen (.t 23)), (some (21, true)), [20, 18]⟩,
    ⟨(some 25), 25, (.bin false .lss (.t 24) (.k (.c (.s (.pv (.int .i64 17)))))), (some (21, true)), [21, 18]⟩,
    ⟨(some 26), 26, (.pick (.t 21) (.t 25) (.k (.c (.s (.pv (.bool false)))))), none, [18, 22]⟩,
    ⟨(some 2), 2, (.mv (.t 26)), none, [23, 18, 0, 1, 2, 3, 4, 5, 6, 7, 8, 9, 10, 11, 12, 13, 14, 15, 16, 17, 18, 19, 20, 21, 22, 23]⟩])
  .ret))
theorem fn19 : FnIs Try.prog 19 ac19 [(.t 2)] 27 := ⟨Try.f19, Try.func19, by kernel_rfl, by kernel_rfl, by kernel_rfl⟩
/- lockkeeper/lockkeeperref03.Same -/
def ac20 : ACode := (.seq (.reg [⟨(some 2), 2, (.box 25 2 (.t 0)), none, []⟩,
    ⟨(some 3), 3, (.box 25 2 (.t 1)), none, []⟩,
    ⟨(some 4), 4, (.mv (.k (.c (.s (.pv (.bool false)))))), none, []⟩])
  (.seq (.seq (.reg [⟨(some 7), 7, (.fld 0 (.t 2)), none, []⟩,
    ⟨(some 8), 8, (.load false 1 (.t 7)), none, [0]⟩,
    ⟨(some 9), 9, (.len (.t 8)), none, [1]⟩,
    ⟨(some 10), 10, (.fld 0 (.t 3)), none, []⟩,
    ⟨(some 11), 11, (.load false 1 (.t 10)), none, [3]⟩,
    ⟨(some 12), 12, (.len (.t 11)), none, [4]⟩,
    ⟨(some 13), 13, (.bin false .neq (.t 9) (.t 12)), none, [2, 5]⟩,
    ⟨(some 14), 14, (.mv (.t 13)), none, [6]⟩,
    ⟨(some 15), 15, (.fld 1 (.t 2)), (some (14, false)), [7]⟩,
    ⟨(some 16), 16, (.load false 1 (.t 15)), (some (14, false)), [8, 7]⟩,
    ⟨(some 17), 17, (.len (.t 16)), (some (14, false)), [9, 7]⟩,
    ⟨(some 18), 18, (.fld 1 (.t 3)), (some (14, false)), [7]⟩,
    ⟨(some 19), 19, (.load false 1 (.t 18)), (some (14, false)), [11, 7]⟩,
    ⟨(some 20), 20, (.len (.t 19)), (some (14, false)), [12, 7]⟩,
    ⟨(some 21), 21, (.bin false .neq (.t 17) (.t 20)), (some (14, false)), [10, 13, 7]⟩,
    ⟨(some 22), 22, (.pick (.t 14) (.k (.c (.s (.pv (.bool true))))) (.t 21)), none, [7, 14]⟩])
  (.cond (.t 22) (.seq (.reg [⟨(some 4), 4, (.mv (.k (.c (.s (.pv (.bool false)))))), none, []⟩])
  .ret) .skip))
  (.seq (.seq (.reg [⟨(some 5), 5, (.mv (.k (.c (.s (.pv (.int .i64 0)))))), none, []⟩])
  (.block 0 (.loop (.seq (.seq (.reg [⟨(some 23), 23, (.mv (.t 5)), none, []⟩,
    ⟨(some 24), 24, (.fld 0 (.t 2)), none, []⟩,
    ⟨(some 25), 25, (.load false 1 (.t 24)), none, [1]⟩,
    ⟨(some 26), 26, (.len (.t 25)), none, [2]⟩,
    ⟨(some 27), 27, (.bin false .lss (.t 23) (.t 26)), none, [0, 3]⟩])
  (.cond (.t 27) .skip (.exit 0)))
  (.seq (.block 1 (.seq (.draw [⟨(some 30), 30, (.fld 0 (.t 2)), none, []⟩,
    ⟨(some 31), 31, (.load false 1 (.t 30)), none, [0]⟩,
    ⟨(some 32), 32, (.mv (.t 5)), none, []⟩,
    ⟨(some 33), 33, (.idx 1 (.t 31) (.t 32)), none, [1, 2]⟩,
    ⟨(some 34), 34, (.load false 1 (.t 33)), none, [3]⟩,
    ⟨(some 35), 35, (.fld 0 (.t 3)), none, []⟩,
    ⟨(some 36), 36, (.load false 1 (.t 35)), none, [5]⟩,
    ⟨(some 37), 37, (.mv (.t 5)), none, []⟩,
    ⟨(some 38), 38, (.idx 1 (.t 36) (.t 37)), none, [6, 7]⟩,
    ⟨(some 39), 39, (.load false 1 (.t 38)), none, [8]⟩,
    ⟨(some 40), 40, (.bin false .neq (.t 34) (.t 39)), none, [4, 9]⟩])
  (.cond (.t 40) (.seq (.reg [⟨(some 4), 4, (.mv (.k (.c (.s (.pv (.bool false)))))), none, []⟩])
  .ret) .skip)))
  (.reg [⟨(some 28), 28, (.mv (.t 5)), none, []⟩,
    ⟨(some 29), 29, (.bin false .add (.t 28) (.k (.c (.s (.pv (.int .i64 1)))))), none, [0]⟩,
    ⟨(some 5), 5, (.mv (.t 29)), none, [1, 0, 1]⟩]))))))
  (.seq (.seq (.reg [⟨(some 6), 6, (.mv (.k (.c (.s (.pv (.int .i64 0)))))), none, []⟩])
  (.block 2 (.loop (.seq (.seq (.reg [⟨(some 41), 41, (.mv (.t 6)), none, []⟩,
    ⟨(some 42), 42, (.fld 1 (.t 2)), none, []⟩,
    ⟨(some 43), 43, (.load false 1 (.t 42)), none, [1]⟩,
    ⟨(some 44), 44, (.len (.t 43)), none, [2]⟩,
    ⟨(some 45), 45, (.bin false .lss (.t 41) (.t 44)), none, [0, 3]⟩])
  (.cond (.t 45) .skip (.exit 2)))
  (.seq (.block 3 (.seq (.draw [⟨(some 48), 48, (.fld 1 (.t 2)), none, []⟩,
    ⟨(some 49), 49, (.load false 1 (.t 48)), none, [0]⟩,
    ⟨(some 50), 50, (.mv (.t 6)), none, []⟩,
    ⟨(some 51), 51, (.idx 2 (.t 49) (.t 50)), none, [1, 2]⟩,
    ⟨(some 52), 52, (.load true 2 (.t 51)), none, [3]⟩,
    ⟨(some 53), 53, (.fld 1 (.t 3)), none, []⟩,
    ⟨(some 54), 54, (.load false 1 (.t 53)), none, [5]⟩,
    ⟨(some 55), 55, (.mv (.t 6)), none, []⟩,
    ⟨(some 56), 56, (.idx 2 (.t 54) (.t 55)), none, [6, 7]⟩,
    ⟨(some 57), 57, (.load true 2 (.t 56)), none, [8]⟩,
    ⟨(some 58), 58, (.eqs true 60 (.t 52) (.t 57)), none, [4, 9]⟩])
  (.cond (.t 58) (.seq (.reg [⟨(some 4), 4, (.mv (.k (.c (.s (.pv (.bool false)))))), none, []⟩])
  .ret) .skip)))
  (.reg [⟨(some 46), 46, (.mv (.t 6)), none, []⟩,
    ⟨(some 47), 47, (.bin false .add (.t 46) (.k (.c (.s (.pv (.int .i64 1)))))), none, [0]⟩,
    ⟨(some 6), 6, (.mv (.t 47)), none, [1, 0, 1]⟩]))))))
  (.seq (.reg [⟨(some 4), 4, (.mv (.k (.c (.s (.pv (.bool true)))))), none, []⟩])
  .ret)))))
theorem fn20 : FnIs Try.prog 20 ac20 [(.t 4)] 59 := ⟨Try.f20, Try.func20, by kernel_rfl, by kernel_rfl, by kernel_rfl⟩
/- lockkeeper/lockkeeperref12.Run -/
def ac21 : ACode := (.seq (.reg [⟨(some 3), 3, (.box 25 2 (.t 0)), none, []⟩,
    ⟨(some 6), 6, (.mk 25 2 [[.zc, .zc]]), none, []⟩])
  (.seq (.seq (.reg [⟨(some 7), 7, (.mv (.k (.c (.s (.pv (.int .i64 0)))))), none, []⟩])
  (.block 0 (.loop (.seq (.seq (.reg [⟨(some 10), 10, (.mv (.t 7)), none, []⟩,
    ⟨(some 11), 11, (.mv (.t 1)), none, []⟩,
    ⟨(some 12), 12, (.len (.t 11)), none, [1]⟩,
    ⟨(some 13), 13, (.bin false .lss (.t 10) (.t 12)), none, [0, 2]⟩,
    ⟨(some 14), 14, (.mv (.t 13)), none, [3]⟩,
    ⟨(some 15), 15, (.mv (.t 7)), (some (14, true)), [4]⟩,
    ⟨(some 16), 16, (.mv (.t 2)), (some (14, true)), [4]⟩,
    ⟨(some 17), 17, (.bin false .lss (.t 15) (.t 16)), (some (14, true)), [5, 6, 4]⟩,
    ⟨(some 18), 18, (.pick (.t 14) (.t 17) (.k (.c (.s (.pv (.bool false)))))), none, [4, 7]⟩])
  (.cond (.t 18) .skip (.exit 0)))
  (.seq (.block 1 (.seq (.reg [⟨(some 21), 21, (.mv (.t 1)), none, []⟩,
    ⟨(some 22), 22, (.mv (.t 7)), none, []⟩,
    ⟨(some 23), 23, (.idx 3 (.t 21) (.t 22)), none, [0, 1]⟩,
    ⟨(some 24), 24, (.fld 1 (.t 23)), none, [2]⟩,
    ⟨(some 25), 25, (.load true 2 (.t 24)), none, [3]⟩,
    ⟨(some 8), 8, (.mk 60 2 [[(.s (.pv (.int .i64 0))), (.s (.pv (.string ⟨#[]⟩)))]]), none, []⟩,
    ⟨none, 80, (.store 2 (.t 8) (.t 25)), none, [5, 4, 0, 1, 2, 3, 4, 5]⟩])
  (.seq (.seq (.reg [⟨(some 26), 26, (.mv (.t 1)), none, []⟩,
    ⟨(some 27), 27, (.mv (.t 7)), none, []⟩,
    ⟨(some 28), 28, (.idx 3 (.t 26) (.t 27)), none, [0, 1]⟩,
    ⟨(some 29), 29, (.fld 0 (.t 28)), none, [2]⟩,
    ⟨(some 30), 30, (.load false 1 (.t 29)), none, [3]⟩])
  (.cond (.t 30) (.seq (.seq (.reg [⟨(some 31), 31, (.load true 2 (.t 3)), none, []⟩,
    ⟨(some 32), 32, (.call 39 [(.t 31)]), none, [0]⟩])
  (.cond (.t 32) (.reg [⟨(some 33), 33, (.load true 2 (.t 3)), none, []⟩,
    ⟨(some 34), 34, (.call 40 [(.t 33)]), none, [0]⟩,
    ⟨none, 76, (.store 2 (.t 3) (.t 34)), none, [1, 1, 0, 1]⟩]) .skip))
  (.exit 1)) .skip))
  (.seq (.reg [⟨(some 35), 35, (.load true 2 (.t 3)), none, []⟩,
    ⟨(some 36), 36, (.call 39 [(.t 35)]), none, [0]⟩,
    ⟨(some 37), 37, (.mv (.t 36)), none, [1, 1]⟩,
    ⟨(some 38), 38, (.fld 0 (.t 8)), (some (37, true)), [2]⟩,
    ⟨(some 39), 39, (.load false 1 (.t 38)), (some (37, true)), [3, 2]⟩,
    ⟨(some 40), 40, (.bin false .geq (.t 39) (.k (.c (.s (.pv (.int .i64 0)))))), (some (37, true)), [4, 2]⟩,
    ⟨(some 41), 41, (.pick (.t 37) (.t 40) (.k (.c (.s (.pv (.bool false)))))), none, [2, 5]⟩,
    ⟨(some 42), 42, (.mv (.t 41)), none, [6, 2]⟩,
    ⟨(some 43), 43, (.fld 0 (.t 8)), (some (42, true)), [7]⟩,
    ⟨(some 44), 44, (.load false 1 (.t 43)), (some (42, true)), [8, 7]⟩,
    ⟨(some 45), 45, (.fld 0 (.t 3)), (some (42, true)), [7]⟩,
    ⟨(some 46), 46, (.load false 1 (.t 45)), (some (42, true)), [10, 7]⟩,
    ⟨(some 47), 47, (.len (.t 46)), (some (42, true)), [11, 7]⟩,
    ⟨(some 48), 48, (.bin false .lss (.t 44) (.t 47)), (some (42, true)), [9, 12, 7]⟩,
    ⟨(some 49), 49, (.pick (.t 42) (.t 48) (.k (.c (.s (.pv (.bool false)))))), none, [7, 13]⟩,
    ⟨(some 50), 50, (.mv (.t 49)), none, [14, 7]⟩,
    ⟨(some 51), 51, (.fld 1 (.t 8)), (some (50, true)), [15]⟩,
    ⟨(some 52), 52, (.load false 1 (.t 51)), (some (50, true)), [16, 15]⟩,
    ⟨(some 53), 53, (.slen (.t 52)), (some (50, true)), [17, 15]⟩,
    ⟨(some 54), 54, (.bin false .eql (.t 53) (.k (.c (.s (.pv (.int .i64 16)))))), (some (50, true)), [18, 15]⟩,
    ⟨(some 55), 55, (.pick (.t 50) (.t 54) (.k (.c (.s (.pv (.bool false)))))), none, [15, 19]⟩,
    ⟨(some 56), 56, (.mv (.t 55)), none, [20, 15]⟩,
    ⟨(some 57), 57, (.fld 1 (.t 3)), (some (56, true)), [21]⟩,
    ⟨(some 58), 58, (.load false 1 (.t 57)), (some (56, true)), [22, 21]⟩,
    ⟨(some 59), 59, (.len (.t 58)), (some (56, true)), [23, 21]⟩,
    ⟨(some 60), 60, (.bin false .lss (.t 59) (.k (.c (.s (.pv (.int .i64 200)))))), (some (56, true)), [24, 21]⟩,
    ⟨(some 61), 61, (.pick (.t 56) (.t 60) (.k (.c (.s (.pv (.bool false)))))), none, [21, 25]⟩])
  (.cond (.t 61) (.seq (.reg [⟨(some 9), 9, (.mv (.k (.c .zc))), none, []⟩])
  (.seq (.reg [⟨(some 62), 62, (.mv (.t 9)), none, []⟩,
    ⟨(some 63), 63, (.fld 1 (.t 3)), none, []⟩,
    ⟨(some 64), 64, (.load false 1 (.t 63)), none, [1]⟩,
    ⟨(some 65), 65, (.app 60 2 24 (.t 62) (.t 64)), none, [0, 2]⟩,
    ⟨(some 9), 9, (.mv (.t 65)), none, [3, 3, 0, 1, 2, 3]⟩])
  (.draw [⟨(some 66), 66, (.fld 0 (.t 3)), none, []⟩,
    ⟨(some 67), 67, (.load false 1 (.t 66)), none, [0]⟩,
    ⟨(some 68), 68, (.mv (.t 9)), none, []⟩,
    ⟨(some 69), 69, (.load true 2 (.t 8)), none, []⟩,
    ⟨(some 70), 70, (.bslice 60 2 [(.s (.pv (.int .i64 0))), (.s (.pv (.string ⟨#[]⟩)))] 1 [(0, 2, (.t 69))]), none, [3]⟩,
    ⟨(some 71), 71, (.app 60 2 24 (.t 68) (.t 70)), none, [2, 4]⟩,
    ⟨(some 72), 72, (.build [.zc, .zc] [(0, 1, (.t 67)), (1, 1, (.t 71))]), none, [1, 5]⟩,
    ⟨none, 81, (.store 2 (.t 3) (.t 72)), none, [6, 5, 0, 1, 2, 3, 4, 5, 6]⟩]))) .skip)))))
  (.reg [⟨(some 19), 19, (.mv (.t 7)), none, []⟩,
    ⟨(some 20), 20, (.bin false .add (.t 19) (.k (.c (.s (.pv (.int .i64 1)))))), none, [0]⟩,
    ⟨(some 7), 7, (.mv (.t 20)), none, [1, 0, 1]⟩]))))))
  (.seq (.reg [⟨(some 73), 73, (.load true 2 (.t 3)), none, []⟩,
    ⟨none, 75, (.store 2 (.t 6) (.t 73)), none, [0, 0]⟩])
  .ret)))
theorem fn21 : FnIs Try.prog 21 ac21 [(.cell 6 true 2)] 74 := ⟨Try.f21, Try.func21, by kernel_rfl, by kernel_rfl, by kernel_rfl⟩
/- lockkeeper/store.Del -/
def ac22 : ACode := (.seq (.reg [⟨(some 2), 2, (.box 25 2 (.t 0)), none, []⟩,
    ⟨(some 4), 4, (.mk 25 2 [[.zc, .zc]]), none, []⟩,
    ⟨(some 5), 5, (.mv (.k (.c (.s (.pv (.int .i64 0)))))), none, []⟩])
  (.seq (.draw [⟨(some 6), 6, (.load true 2 (.t 2)), none, []⟩,
    ⟨(some 7), 7, (.mv (.t 1)), none, []⟩,
    ⟨(some 8), 8, (.call 35 []), none, []⟩,
    ⟨(some 9), 9, (.call 38 [(.t 6), (.t 7), (.t 8)]), none, [0, 1, 2, 2]⟩,
    ⟨(some 10), 10, (.ext 0 (.t 9)), none, [3]⟩,
    ⟨(some 11), 11, (.ext 1 (.t 9)), none, [3]⟩,
    ⟨none, 18, (.store 2 (.t 4) (.t 10)), none, [4, 3, 0, 1, 2, 3, 4, 5]⟩,
    ⟨(some 5), 5, (.mv (.t 11)), none, [5, 6, 0, 1, 2, 3, 4, 5, 6]⟩])
  .ret))
theorem fn22 : FnIs Try.prog 22 ac22 [(.cell 4 true 2), (.t 5)] 12 := ⟨Try.f22, Try.func22, by kernel_rfl, by kernel_rfl, by kernel_rfl⟩
/- lockkeeper/store.List -/
def ac23 : ACode := (.seq (.reg [⟨(some 1), 1, (.box 25 2 (.t 0)), none, []⟩,
    ⟨(some 2), 2, (.mv (.k (.c .zc))), none, []⟩])
  (.seq (.reg [⟨(some 3), 3, (.mv (.k (.c .zc))), none, []⟩])
  (.seq (.seq (.reg [⟨(some 4), 4, (.mv (.k (.c (.s (.pv (.int .i64 1)))))), none, []⟩])
  (.block 0 (.loop (.seq (.seq (.reg [⟨(some 7), 7, (.mv (.t 4)), none, []⟩,
    ⟨(some 8), 8, (.bin false .leq (.t 7) (.k (.c (.s (.pv (.int .i64 16)))))), none, [0]⟩])
  (.cond (.t 8) .skip (.exit 0)))
  (.seq (.block 1 (.seq (.reg [⟨(some 12), 12, (.load true 2 (.t 1)), none, []⟩,
    ⟨(some 13), 13, (.mv (.t 4)), none, []⟩,
    ⟨(some 14), 14, (.call 11 [(.t 12), (.t 13)]), none, [0, 1]⟩,
    ⟨(some 11), 11, (.mv (.t 14)), none, [2]⟩,
    ⟨(some 15), 15, (.ext 0 (.t 11)), none, [3]⟩,
    ⟨(some 16), 16, (.ext 1 (.t 11)), none, [3]⟩,
    ⟨(some 5), 5, (.mk 27 3 [[(.s (.pv (.int .i64 0))), (.s (.pv (.int .i64 0))), (.s (.pv (.string ⟨#[]⟩)))]]), none, []⟩,
    ⟨none, 31, (.store 3 (.t 5) (.t 15)), none, [6, 4, 2, 0, 1, 2, 3, 4, 6]⟩,
    ⟨(some 6), 6, (.mv (.t 16)), none, [5, 7, 0, 1, 2, 3, 4, 5, 6, 7]⟩])
  (.seq (.reg [⟨(some 17), 17, (.mv (.t 6)), none, []⟩,
    ⟨(some 18), 18, (.bin false .eql (.t 17) (.k (.c (.s (.pv (.int .i64 0)))))), none, [0]⟩])
  (.cond (.t 18) (.reg [⟨(some 19), 19, (.mv (.t 3)), none, []⟩,
    ⟨(some 20), 20, (.load true 3 (.t 5)), none, []⟩,
    ⟨(some 21), 21, (.bslice 27 3 [(.s (.pv (.int .i64 0))), (.s (.pv (.int .i64 0))), (.s (.pv (.string ⟨#[]⟩)))] 1 [(0, 3, (.t 20))]), none, [1]⟩,
    ⟨(some 22), 22, (.app 27 3 32 (.t 19) (.t 21)), none, [0, 2]⟩,
    ⟨(some 3), 3, (.mv (.t 22)), none, [3, 3, 0, 1, 2, 3]⟩]) .skip))))
  (.reg [⟨(some 9), 9, (.mv (.t 4)), none, []⟩,
    ⟨(some 10), 10, (.bin false .add (.t 9) (.k (.c (.s (.pv (.int .i64 1)))))), none, [0]⟩,
    ⟨(some 4), 4, (.mv (.t 10)), none, [1, 0, 1]⟩]))))))
  (.seq (.reg [⟨(some 23), 23, (.mv (.t 3)), none, []⟩,
    ⟨(some 2), 2, (.mv (.t 23)), none, [0, 0]⟩])
  .ret))))
theorem fn23 : FnIs Try.prog 23 ac23 [(.t 2)] 24 := ⟨Try.f23, Try.func23, by kernel_rfl, by kernel_rfl, by kernel_rfl⟩
/- lockkeeper/disk.New -/
def ac24 : ACode := (.seq (.reg [⟨(some 2), 2, (.mk 25 2 [[.zc, .zc]]), none, []⟩,
    ⟨(some 3), 3, (.mv (.k (.c (.s (.pv (.int .i64 0)))))), none, []⟩])
  (.seq (.seq (.reg [⟨(some 5), 5, (.mv (.t 0)), none, []⟩,
    ⟨(some 6), 6, (.bin false .lss (.t 5) (.k (.c (.s (.pv (.int .i64 1)))))), none, [0]⟩,
    ⟨(some 7), 7, (.mv (.t 6)), none, [1]⟩,
    ⟨(some 8), 8, (.mv (.t 0)), (some (7, false)), [2]⟩,
    ⟨(some 9), 9, (.bin false .gtr (.t 8) (.k (.c (.s (.pv (.int .i64 64)))))), (some (7, false)), [3, 2]⟩,
    ⟨(some 10), 10, (.pick (.t 7) (.k (.c (.s (.pv (.bool true))))) (.t 9)), none, [2, 4]⟩])
  (.cond (.t 10) (.seq (.reg [⟨(some 11), 11, (.build [.zc, .zc] []), none, []⟩,
    ⟨none, 19, (.store 2 (.t 2) (.t 11)), none, [0, 0]⟩,
    ⟨(some 3), 3, (.mv (.k (.c (.s (.pv (.int .i64 1)))))), none, [1, 0, 1]⟩])
  .ret) .skip))
  (.seq (.reg [⟨(some 12), 12, (.call 41 [(.k (.c (.s (.pv (.string ⟨#[0]⟩))))), (.k (.c (.s (.pv (.int .i64 16)))))]), none, []⟩,
    ⟨(some 4), 4, (.mv (.t 12)), none, [0, 0, 0]⟩])
  (.seq (.reg [⟨(some 13), 13, (.mv (.t 4)), none, []⟩,
    ⟨(some 14), 14, (.bslice 9 1 [(.s (.pv (.string ⟨#[]⟩)))] 1 [(0, 1, (.t 13))]), none, [0]⟩,
    ⟨(some 15), 15, (.mv (.t 0)), none, []⟩,
    ⟨(some 16), 16, (.call 42 [(.t 14), (.t 15)]), none, [1, 2]⟩,
    ⟨(some 17), 17, (.build [.zc, .zc] [(0, 1, (.t 16))]), none, [3]⟩,
    ⟨none, 23, (.store 2 (.t 2) (.t 17)), none, [4, 3, 0, 1, 2, 3, 4]⟩,
    ⟨(some 3), 3, (.mv (.k (.c (.s (.pv (.int .i64 0)))))), none, [5, 0, 1, 2, 3, 4, 5]⟩])
  .ret))))
theorem fn24 : FnIs Try.prog 24 ac24 [(.cell 2 true 2), (.t 3)] 18 := ⟨Try.f24, Try.func24, by kernel_rfl, by kernel_rfl, by kernel_rfl⟩
/- lockkeeper/journal.Recover -/
def ac25 : ACode := (.seq (.reg [⟨(some 1), 1, (.box 25 2 (.t 0)), none, []⟩,
    ⟨(some 2), 2, (.mk 25 2 [[.zc, .zc]]), none, []⟩])
  (.seq (.reg [⟨(some 4), 4, (.load true 2 (.t 1)), none, []⟩,
    ⟨(some 5), 5, (.call 43 [(.t 4)]), none, [0]⟩,
    ⟨(some 3), 3, (.mv (.t 5)), none, [1, 1, 0, 1]⟩])
  (.seq (.reg [⟨(some 6), 6, (.load true 2 (.t 1)), none, []⟩,
    ⟨(some 7), 7, (.mv (.t 3)), none, []⟩,
    ⟨(some 8), 8, (.mv (.t 3)), none, []⟩,
    ⟨(some 9), 9, (.len (.t 8)), none, [2]⟩,
    ⟨(some 10), 10, (.call 27 [(.t 6), (.t 7), (.t 9)]), none, [0, 1, 3]⟩,
    ⟨none, 16, (.store 2 (.t 2) (.t 10)), none, [4, 4, 0, 1, 2, 3, 4]⟩])
  .ret)))
theorem fn25 : FnIs Try.prog 25 ac25 [(.cell 2 true 2)] 11 := ⟨Try.f25, Try.func25, by kernel_rfl, by kernel_rfl, by kernel_rfl⟩
/- lockkeeper/disk.Crash -/
def ac26 : ACode := (.seq (.reg [⟨(some 2), 2, (.box 25 2 (.t 0)), none, []⟩,
    ⟨(some 4), 4, (.mk 25 2 [[.zc, .zc]]), none, []⟩])
  (.seq (.seq (.reg [⟨(some 11), 11, (.load true 2 (.t 2)), none, []⟩,
    ⟨(some 12), 12, (.call 44 [(.t 11)]), none, [0]⟩,
    ⟨(some 13), 13, (.not (.t 12)), none, [1]⟩])
  (.cond (.t 13) (.seq (.reg [⟨(some 14), 14, (.load true 2 (.t 2)), none, []⟩,
    ⟨none, 58, (.store 2 (.t 4) (.t 14)), none, [0, 0]⟩])
  .ret) .skip))
  (.seq (.reg [⟨(some 15), 15, (.fld 1 (.t 2)), none, []⟩,
    ⟨(some 16), 16, (.load false 1 (.t 15)), none, [0]⟩,
    ⟨(some 17), 17, (.len (.t 16)), none, [1]⟩,
    ⟨(some 18), 18, (.mkSlice 4 1 1 [(.pv (.bool false))] (.t 17) (.t 17)), none, [2, 2]⟩,
    ⟨(some 5), 5, (.mv (.t 18)), none, [3, 0, 1, 2, 3]⟩])
  (.seq (.seq (.reg [⟨(some 19), 19, (.mv (.t 1)), none, []⟩,
    ⟨(some 20), 20, (.len (.t 19)), none, [0]⟩,
    ⟨(some 21), 21, (.mv (.k (.c (.s (.pv (.int .i64 0)))))), none, []⟩])
  (.block 0 (.loop (.seq (.reg [⟨(some 22), 22, (.bin false .lss (.t 21) (.t 20)), none, []⟩])
  (.seq (.cond (.t 22) .skip (.exit 0))
  (.seq (.block 1 (.seq (.reg [⟨(some 23), 23, (.idx 1 (.t 19) (.t 21)), none, []⟩,
    ⟨(some 24), 24, (.load false 1 (.t 23)), none, [0]⟩,
    ⟨(some 7), 7, (.mv (.t 24)), none, [1, 0, 1]⟩])
  (.seq (.reg [⟨(some 25), 25, (.mv (.t 7)), none, []⟩,
    ⟨(some 26), 26, (.bin false .geq (.t 25) (.k (.c (.s (.pv (.int .i64 0)))))), none, [0]⟩,
    ⟨(some 27), 27, (.mv (.t 26)), none, [1]⟩,
    ⟨(some 28), 28, (.mv (.t 7)), (some (27, true)), [2]⟩,
    ⟨(some 29), 29, (.mv (.t 5)), (some (27, true)), [2]⟩,
    ⟨(some 30), 30, (.len (.t 29)), (some (27, true)), [4, 2]⟩,
    ⟨(some 31), 31, (.bin false .lss (.t 28) (.t 30)), (some (27, true)), [3, 5, 2]⟩,
    ⟨(some 32), 32, (.pick (.t 27) (.t 31) (.k (.c (.s (.pv (.bool false)))))), none, [2, 6]⟩])
  (.cond (.t 32) (.reg [⟨(some 33), 33, (.mv (.t 5)), none, []⟩,
    ⟨(some 34), 34, (.mv (.t 7)), none, []⟩,
    ⟨(some 35), 35, (.idx 1 (.t 33) (.t 34)), none, [0, 1, 0, 1]⟩,
    ⟨none, 60, (.store 1 (.t 35) (.k (.c (.s (.pv (.bool true)))))), none, [2, 0, 1]⟩]) .skip))))
  (.reg [⟨(some 36), 36, (.bin false .add (.t 21) (.k (.c (.s (.pv (.int .i64 1)))))), none, []⟩,
    ⟨(some 21), 21, (.mv (.t 36)), none, [0]⟩])))))))
  (.seq (.reg [⟨(some 8), 8, (.mv (.k (.c .zc))), none, []⟩])
  (.seq (.seq (.reg [⟨(some 37), 37, (.fld 1 (.t 2)), none, []⟩,
    ⟨(some 38), 38, (.load false 1 (.t 37)), none, [0]⟩,
    ⟨(some 39), 39, (.len (.t 38)), none, [1]⟩,
    ⟨(some 40), 40, (.mv (.k (.c (.s (.pv (.int .i64 0)))))), none, []⟩])
  (.block 2 (.loop (.seq (.reg [⟨(some 41), 41, (.bin false .lss (.t 40) (.t 39)), none, []⟩])
  (.seq (.cond (.t 41) .skip (.exit 2))
  (.seq (.block 3 (.seq (.reg [⟨(some 42), 42, (.mv (.t 40)), none, []⟩,
    ⟨(some 43), 43, (.idx 2 (.t 38) (.t 40)), none, []⟩,
    ⟨(some 44), 44, (.load true 2 (.t 43)), none, [1]⟩,
    ⟨(some 10), 10, (.mk 60 2 [[(.s (.pv (.int .i64 0))), (.s (.pv (.string ⟨#[]⟩)))]]), none, []⟩,
    ⟨(some 9), 9, (.mv (.t 42)), none, [0, 0, 1, 2, 3]⟩,
    ⟨none, 62, (.store 2 (.t 10) (.t 44)), none, [3, 2, 4, 0, 1, 2, 3, 4]⟩])
  (.seq (.reg [⟨(some 45), 45, (.mv (.t 5)), none, []⟩,
    ⟨(some 46), 46, (.mv (.t 9)), none, []⟩,
    ⟨(some 47), 47, (.idx 1 (.t 45) (.t 46)), none, [0, 1]⟩,
    ⟨(some 48), 48, (.load false 1 (.t 47)), none, [2]⟩])
  (.cond (.t 48) (.reg [⟨(some 49), 49, (.mv (.t 8)), none, []⟩,
    ⟨(some 50), 50, (.load true 2 (.t 10)), none, []⟩,
    ⟨(some 51), 51, (.bslice 60 2 [(.s (.pv (.int .i64 0))), (.s (.pv (.string ⟨#[]⟩)))] 1 [(0, 2, (.t 50))]), none, [1]⟩,
    ⟨(some 52), 52, (.app 60 2 24 (.t 49) (.t 51)), none, [0, 2]⟩,
    ⟨(some 8), 8, (.mv (.t 52)), none, [3, 3, 0, 1, 2, 3]⟩]) .skip))))
  (.reg [⟨(some 53), 53, (.bin false .add (.t 40) (.k (.c (.s (.pv (.int .i64 1)))))), none, []⟩,
    ⟨(some 40), 40, (.mv (.t 53)), none, [0]⟩])))))))
  (.seq (.reg [⟨(some 54), 54, (.load true 2 (.t 2)), none, []⟩,
    ⟨(some 55), 55, (.mv (.t 8)), none, []⟩,
    ⟨(some 56), 56, (.call 45 [(.t 54), (.t 55)]), none, [0, 1]⟩,
    ⟨none, 60, (.store 2 (.t 4) (.t 56)), none, [2, 2, 0, 1, 2]⟩])
  .ret)))))))
theorem fn26 : FnIs Try.prog 26 ac26 [(.cell 4 true 2)] 57 := ⟨Try.f26, Try.func26, by kernel_rfl, by kernel_rfl, by kernel_rfl⟩
/- lockkeeper/journal.Run -/
def ac27 : ACode := (.seq (.reg [⟨(some 3), 3, (.box 25 2 (.t 0)), none, []⟩,
    ⟨(some 6), 6, (.mk 25 2 [[.zc, .zc]]), none, []⟩])
  (.seq (.seq (.reg [⟨(some 9), 9, (.mv (.t 1)), none, []⟩,
    ⟨(some 10), 10, (.mv (.t 2)), none, []⟩,
    ⟨(some 11), 11, (.mv (.t 1)), none, []⟩,
    ⟨(some 12), 12, (.len (.t 11)), none, [2]⟩,
    ⟨(some 13), 13, (.mm false (.t 10) (.t 12)), none, [1, 3]⟩,
    ⟨(some 14), 14, (.mm true (.k (.c (.s (.pv (.int .i64 0))))) (.t 13)), none, [4]⟩,
    ⟨(some 15), 15, (.sub 3 (.t 9) none (some (.t 14))), none, [0, 5]⟩,
    ⟨(some 16), 16, (.len (.t 15)), none, [6]⟩,
    ⟨(some 17), 17, (.mv (.k (.c (.s (.pv (.int .i64 0)))))), none, []⟩])
  (.block 0 (.loop (.seq (.reg [⟨(some 18), 18, (.bin false .lss (.t 17) (.t 16)), none, []⟩])
  (.seq (.cond (.t 18) .skip (.exit 0))
  (.seq (.block 1 (.seq (.reg [⟨(some 19), 19, (.idx 3 (.t 15) (.t 17)), none, []⟩,
    ⟨(some 20), 20, (.load true 3 (.t 19)), none, [0]⟩,
    ⟨(some 8), 8, (.mk 71 3 [[(.s (.pv (.bool false))), (.s (.pv (.int .i64 0))), (.s (.pv (.string ⟨#[]⟩)))]]), none, []⟩,
    ⟨none, 37, (.store 3 (.t 8) (.t 20)), none, [2, 1, 0, 1, 2]⟩])
  (.seq (.reg [⟨(some 21), 21, (.fld 0 (.t 8)), none, []⟩,
    ⟨(some 22), 22, (.load false 1 (.t 21)), none, [0]⟩])
  (.cond (.t 22) (.reg [⟨(some 23), 23, (.load true 2 (.t 3)), none, []⟩,
    ⟨(some 24), 24, (.call 46 [(.t 23)]), none, [0]⟩,
    ⟨none, 36, (.store 2 (.t 3) (.t 24)), none, [1, 1, 0, 1]⟩]) (.reg [⟨(some 26), 26, (.load true 2 (.t 3)), none, []⟩,
    ⟨(some 27), 27, (.fld 1 (.t 8)), none, []⟩,
    ⟨(some 28), 28, (.load true 2 (.t 27)), none, [1]⟩,
    ⟨(some 29), 29, (.call 47 [(.t 26), (.t 28)]), none, [0, 2]⟩,
    ⟨(some 25), 25, (.mv (.t 29)), none, [3]⟩,
    ⟨(some 30), 30, (.ext 0 (.t 25)), none, [4]⟩,
    ⟨(some 31), 31, (.ext 1 (.t 25)), none, [4]⟩,
    ⟨none, 41, (.store 2 (.t 3) (.t 30)), none, [5, 3, 0, 1, 2, 3, 4, 5]⟩])))))
  (.reg [⟨(some 32), 32, (.bin false .add (.t 17) (.k (.c (.s (.pv (.int .i64 1)))))), none, []⟩,
    ⟨(some 17), 17, (.mv (.t 32)), none, [0]⟩])))))))
  (.seq (.reg [⟨(some 33), 33, (.load true 2 (.t 3)), none, []⟩,
    ⟨none, 35, (.store 2 (.t 6) (.t 33)), none, [0, 0]⟩])
  .ret)))
theorem fn27 : FnIs Try.prog 27 ac27 [(.cell 6 true 2)] 34 := ⟨Try.f27, Try.func27, by kernel_rfl, by kernel_rfl, by kernel_rfl⟩
/- lockkeeper/journal.Get -/
def ac28 : ACode := (.seq (.reg [⟨(some 2), 2, (.box 25 2 (.t 0)), none, []⟩,
    ⟨(some 4), 4, (.mv (.k (.c (.s (.pv (.string ⟨#[]⟩)))))), none, []⟩,
    ⟨(some 5), 5, (.mv (.k (.c (.s (.pv (.int .i64 0)))))), none, [1]⟩])
  (.seq (.seq (.reg [⟨(some 10), 10, (.load true 2 (.t 2)), none, []⟩,
    ⟨(some 11), 11, (.call 48 [(.t 10)]), none, [0]⟩,
    ⟨(some 12), 12, (.not (.t 11)), none, [1]⟩,
    ⟨(some 13), 13, (.mv (.t 12)), none, [2, 1]⟩,
    ⟨(some 14), 14, (.mv (.t 1)), (some (13, false)), [3]⟩,
    ⟨(some 15), 15, (.call 49 [(.t 14)]), (some (13, false)), [4, 3, 3]⟩,
    ⟨(some 16), 16, (.not (.t 15)), (some (13, false)), [5, 3]⟩,
    ⟨(some 17), 17, (.pick (.t 13) (.k (.c (.s (.pv (.bool true))))) (.t 16)), none, [3, 6]⟩])
  (.cond (.t 17) (.seq (.reg [⟨(some 4), 4, (.mv (.k (.c (.s (.pv (.string ⟨#[]⟩)))))), none, []⟩,
    ⟨(some 5), 5, (.mv (.k (.c (.s (.pv (.int .i64 1)))))), none, [0, 0]⟩])
  .ret) .skip))
  (.seq (.draw [⟨(some 19), 19, (.load true 2 (.t 2)), none, []⟩,
    ⟨(some 20), 20, (.mv (.t 1)), none, []⟩,
    ⟨(some 21), 21, (.call 51 [(.t 20)]), none, [1]⟩,
    ⟨(some 22), 22, (.call 50 [(.t 19), (.t 21)]), none, [0, 2, 2]⟩,
    ⟨(some 18), 18, (.mv (.t 22)), none, [3]⟩,
    ⟨(some 23), 23, (.ext 0 (.t 18)), none, [4]⟩,
    ⟨(some 24), 24, (.ext 1 (.t 18)), none, [4]⟩,
    ⟨(some 6), 6, (.mv (.t 23)), none, [5, 3, 0, 1, 2, 3, 4, 5]⟩,
    ⟨(some 7), 7, (.mv (.t 24)), none, [6, 7, 0, 1, 2, 3, 4, 5, 6, 7]⟩])
  (.seq (.draw [⟨(some 26), 26, (.load true 2 (.t 2)), none, []⟩,
    ⟨(some 27), 27, (.mv (.t 1)), none, []⟩,
    ⟨(some 28), 28, (.call 51 [(.t 27)]), none, [1]⟩,
    ⟨(some 29), 29, (.bin false .add (.t 28) (.k (.c (.s (.pv (.int .i64 1)))))), none, [2]⟩,
    ⟨(some 30), 30, (.call 50 [(.t 26), (.t 29)]), none, [0, 3, 2]⟩,
    ⟨(some 25), 25, (.mv (.t 30)), none, [4]⟩,
    ⟨(some 31), 31, (.ext 0 (.t 25)), none, [5]⟩,
    ⟨(some 32), 32, (.ext 1 (.t 25)), none, [5]⟩,
    ⟨(some 8), 8, (.mv (.t 31)), none, [6, 4, 0, 1, 2, 3, 4, 5, 6]⟩,
    ⟨(some 9), 9, (.mv (.t 32)), none, [7, 8, 0, 1, 2, 3, 4, 5, 6, 7, 8]⟩])
  (.seq (.reg [⟨(some 33), 33, (.mv (.t 6)), none, []⟩,
    ⟨(some 34), 34, (.mv (.t 8)), none, []⟩,
    ⟨(some 35), 35, (.bin false .add (.t 33) (.t 34)), none, [0, 1]⟩,
    ⟨(some 4), 4, (.mv (.t 35)), none, [2, 0, 1, 2]⟩,
    ⟨(some 5), 5, (.mv (.k (.c (.s (.pv (.int .i64 0)))))), none, [3, 0, 1, 2, 3]⟩])
  .ret)))))
theorem fn28 : FnIs Try.prog 28 ac28 [(.t 4), (.t 5)] 36 := ⟨Try.f28, Try.func28, by kernel_rfl, by kernel_rfl, by kernel_rfl⟩
/- lockkeeper/lockkeeperref12.Get -/
def ac31 : ACode := (.seq (.reg [⟨(some 2), 2, (.box 25 2 (.t 0)), none, []⟩,
    ⟨(some 4), 4, (.mv (.k (.c (.s (.pv (.string ⟨#[]⟩)))))), none, []⟩])
  (.seq (.draw [⟨(some 5), 5, (.load true 2 (.t 2)), none, []⟩,
    ⟨(some 6), 6, (.mv (.t 1)), none, []⟩,
    ⟨(some 7), 7, (.bin false .mul (.k (.c (.s (.pv (.int .i64 2))))) (.t 6)), none, [1]⟩,
    ⟨(some 8), 8, (.bin false .add (.t 7) (.k (.c (.s (.pv (.int .i64 1)))))), none, [2]⟩,
    ⟨(some 9), 9, (.call 54 [(.t 5), (.t 8)]), none, [0, 3]⟩,
    ⟨(some 10), 10, (.load true 2 (.t 2)), none, []⟩,
    ⟨(some 11), 11, (.mv (.t 1)), none, []⟩,
    ⟨(some 12), 12, (.bin false .mul (.k (.c (.s (.pv (.int .i64 2))))) (.t 11)), none, [6]⟩,
    ⟨(some 13), 13, (.bin false .add (.t 12) (.k (.c (.s (.pv (.int .i64 2)))))), none, [7]⟩,
    ⟨(some 14), 14, (.call 54 [(.t 10), (.t 13)]), none, [5, 8, 4]⟩,
    ⟨(some 15), 15, (.bin false .add (.t 9) (.t 14)), none, [4, 9]⟩,
    ⟨(some 4), 4, (.mv (.t 15)), none, [10, 9, 0, 1, 2, 3, 4, 5, 6, 7, 8, 9, 10]⟩])
  .ret))
theorem fn31 : FnIs Try.prog 31 ac31 [(.t 4)] 16 := ⟨Try.f31, Try.func31, by kernel_rfl, by kernel_rfl, by kernel_rfl⟩
/- lockkeeper/lockkeeperref12.Plan -/
def ac32 : ACode := (.seq (.reg [⟨(some 4), 4, (.mv (.k (.c .zc))), none, []⟩])
  (.seq (.draw [⟨(some 8), 8, (.mv (.t 1)), none, []⟩,
    ⟨(some 9), 9, (.ssub (.t 8) none (some (.k (.c (.s (.pv (.int .i64 16))))))), none, [0]⟩,
    ⟨(some 10), 10, (.mv (.t 1)), none, []⟩,
    ⟨(some 11), 11, (.ssub (.t 10) (some (.k (.c (.s (.pv (.int .i64 16)))))) none), none, [2]⟩,
    ⟨(some 5), 5, (.mv (.t 9)), none, [1, 0, 1]⟩,
    ⟨(some 6), 6, (.mv (.t 11)), none, [3, 4, 0, 1, 2, 3, 4]⟩])
  (.seq (.reg [⟨(some 12), 12, (.mv (.t 0)), none, []⟩,
    ⟨(some 13), 13, (.bin false .mul (.k (.c (.s (.pv (.int .i64 2))))) (.t 12)), none, [0]⟩,
    ⟨(some 14), 14, (.bin false .add (.t 13) (.k (.c (.s (.pv (.int .i64 1)))))), none, [1]⟩,
    ⟨(some 7), 7, (.mv (.t 14)), none, [2, 0, 1, 2]⟩])
  (.seq (.draw [⟨(some 15), 15, (.mv (.t 5)), none, []⟩,
    ⟨(some 16), 16, (.call 55 [(.k (.c (.s (.pv (.int .i64 1))))), (.t 15)]), none, [0]⟩,
    ⟨(some 17), 17, (.mv (.t 6)), none, []⟩,
    ⟨(some 18), 18, (.call 55 [(.k (.c (.s (.pv (.int .i64 2))))), (.t 17)]), none, [2, 1]⟩,
    ⟨(some 19), 19, (.build [(.s (.pv (.bool false))), (.s (.pv (.int .i64 0))), (.s (.pv (.string ⟨#[]⟩)))] [(0, 1, (.k (.c (.s (.pv (.bool true))))))]), none, []⟩,
    ⟨(some 20), 20, (.mv (.t 0)), none, []⟩,
    ⟨(some 21), 21, (.conv .u8 (.t 20)), none, [5]⟩,
    ⟨(some 22), 22, (.bslice 5 1 [(.s (.pv (.int .u8 0)))] 2 [(0, 1, (.k (.c (.s (.pv (.int .u8 74)))))), (1, 1, (.t 21))]), none, [6]⟩,
    ⟨(some 23), 23, (.b2s (.t 22)), none, [7]⟩,
    ⟨(some 24), 24, (.call 56 [(.t 23)]), none, [8, 3]⟩,
    ⟨(some 25), 25, (.call 55 [(.k (.c (.s (.pv (.int .i64 0))))), (.t 24)]), none, [9, 9]⟩,
    ⟨(some 26), 26, (.build [(.s (.pv (.bool false))), (.s (.pv (.int .i64 0))), (.s (.pv (.string ⟨#[]⟩)))] [(0, 1, (.k (.c (.s (.pv (.bool true))))))]), none, []⟩,
    ⟨(some 27), 27, (.mv (.t 7)), none, []⟩,
    ⟨(some 28), 28, (.mv (.t 5)), none, []⟩,
    ⟨(some 29), 29, (.call 55 [(.t 27), (.t 28)]), none, [12, 13, 10]⟩,
    ⟨(some 30), 30, (.mv (.t 7)), none, []⟩,
    ⟨(some 31), 31, (.bin false .add (.t 30) (.k (.c (.s (.pv (.int .i64 1)))))), none, [15]⟩,
    ⟨(some 32), 32, (.mv (.t 6)), none, []⟩,
    ⟨(some 33), 33, (.call 55 [(.t 31), (.t 32)]), none, [16, 17, 14]⟩,
    ⟨(some 34), 34, (.build [(.s (.pv (.bool false))), (.s (.pv (.int .i64 0))), (.s (.pv (.string ⟨#[]⟩)))] [(0, 1, (.k (.c (.s (.pv (.bool true))))))]), none, []⟩,
    ⟨(some 35), 35, (.call 56 [(.k (.c (.s (.pv (.string ⟨#[]⟩)))))]), none, [18]⟩,
    ⟨(some 36), 36, (.call 55 [(.k (.c (.s (.pv (.int .i64 0))))), (.t 35)]), none, [20, 20]⟩,
    ⟨(some 37), 37, (.build [(.s (.pv (.bool false))), (.s (.pv (.int .i64 0))), (.s (.pv (.string ⟨#[]⟩)))] [(0, 1, (.k (.c (.s (.pv (.bool true))))))]), none, []⟩,
    ⟨(some 38), 38, (.bslice 70 3 [(.s (.pv (.bool false))), (.s (.pv (.int .i64 0))), (.s (.pv (.string ⟨#[]⟩)))] 10 [(0, 3, (.t 16)), (3, 3, (.t 18)), (6, 3, (.t 19)), (9, 3, (.t 25)), (12, 3, (.t 26)), (15, 3, (.t 29)), (18, 3, (.t 33)), (21, 3, (.t 34)), (24, 3, (.t 36)), (27, 3, (.t 37))]), none, [1, 3, 4, 10, 11, 14, 18, 19, 21, 22]⟩,
    ⟨(some 4), 4, (.mv (.t 38)), none, [23, 21, 0, 1, 2, 3, 4, 5, 6, 7, 8, 9, 10, 11, 12, 13, 14, 15, 16, 17, 18, 19, 20, 21, 22, 23]⟩])
  .ret))))
theorem fn32 : FnIs Try.prog 32 ac32 [(.t 4)] 39 := ⟨Try.f32, Try.func32, by kernel_rfl, by kernel_rfl, by kernel_rfl⟩
/- lockkeeper/lockkeeperref13.Noughts -/
def ac33 : ACode := (.seq (.reg [⟨(some 0), 0, (.mv (.k (.c (.s (.pv (.string ⟨#[]⟩)))))), none, []⟩])
  (.seq (.reg [⟨(some 1), 1, (.mv (.k (.c (.s (.pv (.string ⟨#[]⟩)))))), none, []⟩])
  (.seq (.seq (.reg [⟨(some 2), 2, (.mv (.k (.c (.s (.pv (.int .i64 0)))))), none, []⟩])
  (.block 0 (.loop (.seq (.seq (.reg [⟨(some 3), 3, (.mv (.t 2)), none, []⟩,
    ⟨(some 4), 4, (.bin false .lss (.t 3) (.k (.c (.s (.pv (.int .i64 32)))))), none, [0]⟩])
  (.cond (.t 4) .skip (.exit 0)))
  (.seq (.block 1 (.reg [⟨(some 7), 7, (.mv (.t 1)), none, []⟩,
    ⟨(some 8), 8, (.bslice 5 1 [(.s (.pv (.int .u8 0)))] 1 [(0, 1, (.k (.c (.s (.pv (.int .u8 0))))))]), none, []⟩,
    ⟨(some 9), 9, (.b2s (.t 8)), none, [1]⟩,
    ⟨(some 10), 10, (.bin false .add (.t 7) (.t 9)), none, [0, 2]⟩,
    ⟨(some 1), 1, (.mv (.t 10)), none, [3, 0, 1, 2, 3]⟩]))
  (.reg [⟨(some 5), 5, (.mv (.t 2)), none, []⟩,
    ⟨(some 6), 6, (.bin false .add (.t 5) (.k (.c (.s (.pv (.int .i64 1)))))), none, [0]⟩,
    ⟨(some 2), 2, (.mv (.t 6)), none, [1, 0, 1]⟩]))))))
  (.seq (.reg [⟨(some 11), 11, (.mv (.t 1)), none, []⟩,
    ⟨(some 0), 0, (.mv (.t 11)), none, [0, 0]⟩])
  .ret))))
theorem fn33 : FnIs Try.prog 33 ac33 [(.t 0)] 12 := ⟨Try.f33, Try.func33, by kernel_rfl, by kernel_rfl, by kernel_rfl⟩
/- lockkeeper/store.absent -/
def ac35 : ACode := (.seq (.reg [⟨(some 0), 0, (.mv (.k (.c (.s (.pv (.string ⟨#[]⟩)))))), none, []⟩])
  (.seq (.reg [⟨(some 1), 1, (.call 41 [(.k (.c (.s (.pv (.string ⟨#[0]⟩))))), (.k (.c (.s (.pv (.int .i64 32)))))]), none, []⟩,
    ⟨(some 0), 0, (.mv (.t 1)), none, [0, 0, 0]⟩])
  .ret))
theorem fn35 : FnIs Try.prog 35 ac35 [(.t 0)] 2 := ⟨Try.f35, Try.func35, by kernel_rfl, by kernel_rfl, by kernel_rfl⟩
/- lockkeeper/journal.Plan -/
def ac37 : ACode := (.seq (.reg [⟨(some 3), 3, (.box 25 2 (.t 0)), none, []⟩,
    ⟨(some 6), 6, (.mv (.k (.c .zc))), none, []⟩,
    ⟨(some 7), 7, (.mv (.k (.c (.s (.pv (.int .i64 0)))))), none, [1]⟩])
  (.seq (.seq (.reg [⟨(some 10), 10, (.load true 2 (.t 3)), none, []⟩,
    ⟨(some 11), 11, (.call 48 [(.t 10)]), none, [0]⟩,
    ⟨(some 12), 12, (.not (.t 11)), none, [1]⟩,
    ⟨(some 13), 13, (.mv (.t 12)), none, [2, 1]⟩,
    ⟨(some 14), 14, (.mv (.t 1)), (some (13, false)), [3]⟩,
    ⟨(some 15), 15, (.call 49 [(.t 14)]), (some (13, false)), [4, 3, 3]⟩,
    ⟨(some 16), 16, (.not (.t 15)), (some (13, false)), [5, 3]⟩,
    ⟨(some 17), 17, (.pick (.t 13) (.k (.c (.s (.pv (.bool true))))) (.t 16)), none, [3, 6]⟩,
    ⟨(some 18), 18, (.mv (.t 17)), none, [7, 5]⟩,
    ⟨(some 19), 19, (.mv (.t 2)), (some (18, false)), [8]⟩,
    ⟨(some 20), 20, (.slen (.t 19)), (some (18, false)), [9, 8]⟩,
    ⟨(some 21), 21, (.bin false .neq (.t 20) (.k (.c (.s (.pv (.int .i64 32)))))), (some (18, false)), [10, 8]⟩,
    ⟨(some 22), 22, (.pick (.t 18) (.k (.c (.s (.pv (.bool true))))) (.t 21)), none, [8, 11]⟩])
  (.cond (.t 22) (.seq (.reg [⟨(some 6), 6, (.mv (.k (.c .zc))), none, []⟩,
    ⟨(some 7), 7, (.mv (.k (.c (.s (.pv (.int .i64 1)))))), none, [0, 0]⟩])
  .ret) .skip))
  (.seq (.draw [⟨(some 23), 23, (.mv (.t 2)), none, []⟩,
    ⟨(some 24), 24, (.ssub (.t 23) none (some (.k (.c (.s (.pv (.int .i64 16))))))), none, [0]⟩,
    ⟨(some 25), 25, (.mv (.t 2)), none, []⟩,
    ⟨(some 26), 26, (.ssub (.t 25) (some (.k (.c (.s (.pv (.int .i64 16)))))) none), none, [2]⟩,
    ⟨(some 8), 8, (.mv (.t 24)), none, [1, 0, 1]⟩,
    ⟨(some 9), 9, (.mv (.t 26)), none, [3, 4, 0, 1, 2, 3, 4]⟩])
  (.seq (.reg [⟨(some 27), 27, (.mv (.t 8)), none, []⟩,
    ⟨(some 28), 28, (.call 63 [(.k (.c (.s (.pv (.int .i64 1))))), (.t 27)]), none, [0]⟩,
    ⟨(some 29), 29, (.mv (.t 9)), none, []⟩,
    ⟨(some 30), 30, (.call 63 [(.k (.c (.s (.pv (.int .i64 2))))), (.t 29)]), none, [2, 1]⟩,
    ⟨(some 31), 31, (.call 64 []), none, [3]⟩,
    ⟨(some 32), 32, (.mv (.t 1)), none, []⟩,
    ⟨(some 33), 33, (.call 65 [(.t 32)]), none, [5, 4]⟩,
    ⟨(some 34), 34, (.call 63 [(.k (.c (.s (.pv (.int .i64 0))))), (.t 33)]), none, [6, 6]⟩,
    ⟨(some 35), 35, (.call 64 []), none, [7]⟩,
    ⟨(some 36), 36, (.mv (.t 1)), none, []⟩,
    ⟨(some 37), 37, (.call 51 [(.t 36)]), none, [9, 8]⟩,
    ⟨(some 38), 38, (.mv (.t 8)), none, []⟩,
    ⟨(some 39), 39, (.call 63 [(.t 37), (.t 38)]), none, [10, 11, 10]⟩,
    ⟨(some 40), 40, (.mv (.t 1)), none, []⟩,
    ⟨(some 41), 41, (.call 51 [(.t 40)]), none, [13, 12]⟩,
    ⟨(some 42), 42, (.bin false .add (.t 41) (.k (.c (.s (.pv (.int .i64 1)))))), none, [14]⟩,
    ⟨(some 43), 43, (.mv (.t 9)), none, []⟩,
    ⟨(some 44), 44, (.call 63 [(.t 42), (.t 43)]), none, [15, 16, 14]⟩,
    ⟨(some 45), 45, (.call 64 []), none, [17]⟩,
    ⟨(some 46), 46, (.call 63 [(.k (.c (.s (.pv (.int .i64 0))))), (.k (.c (.s (.pv (.string ⟨#[0, 0, 0, 0, 0, 0, 0, 0, 0, 0, 0, 0, 0, 0, 0, 0]⟩)))))]), none, [18]⟩,
    ⟨(some 47), 47, (.call 64 []), none, [19]⟩,
    ⟨(some 48), 48, (.bslice 71 3 [(.s (.pv (.bool false))), (.s (.pv (.int .i64 0))), (.s (.pv (.string ⟨#[]⟩)))] 10 [(0, 3, (.t 28)), (3, 3, (.t 30)), (6, 3, (.t 31)), (9, 3, (.t 34)), (12, 3, (.t 35)), (15, 3, (.t 39)), (18, 3, (.t 44)), (21, 3, (.t 45)), (24, 3, (.t 46)), (27, 3, (.t 47))]), none, [1, 3, 4, 7, 8, 12, 17, 18, 19, 20]⟩,
    ⟨(some 6), 6, (.mv (.t 48)), none, [21, 20, 0, 1, 2, 3, 4, 5, 6, 7, 8, 9, 10, 11, 12, 13, 14, 15, 16, 17, 18, 19, 20, 21]⟩,
    ⟨(some 7), 7, (.mv (.k (.c (.s (.pv (.int .i64 0)))))), none, [22, 0, 1, 2, 3, 4, 5, 6, 7, 8, 9, 10, 11, 12, 13, 14, 15, 16, 17, 18, 19, 20, 21, 22]⟩])
  .ret))))
theorem fn37 : FnIs Try.prog 37 ac37 [(.t 6), (.t 7)] 49 := ⟨Try.f37, Try.func37, by kernel_rfl, by kernel_rfl, by kernel_rfl⟩
/- lockkeeper/journal.Commit -/
def ac38 : ACode := (.seq (.reg [⟨(some 3), 3, (.box 25 2 (.t 0)), none, []⟩,
    ⟨(some 6), 6, (.mk 25 2 [[.zc, .zc]]), none, []⟩,
    ⟨(some 7), 7, (.mv (.k (.c (.s (.pv (.int .i64 0)))))), none, []⟩])
  (.seq (.reg [⟨(some 11), 11, (.load true 2 (.t 3)), none, []⟩,
    ⟨(some 12), 12, (.mv (.t 1)), none, []⟩,
    ⟨(some 13), 13, (.mv (.t 2)), none, []⟩,
    ⟨(some 14), 14, (.call 37 [(.t 11), (.t 12), (.t 13)]), none, [0, 1, 2]⟩,
    ⟨(some 10), 10, (.mv (.t 14)), none, [3]⟩,
    ⟨(some 15), 15, (.ext 0 (.t 10)), none, [4]⟩,
    ⟨(some 16), 16, (.ext 1 (.t 10)), none, [4]⟩,
    ⟨(some 8), 8, (.mv (.t 15)), none, [5, 3, 0, 1, 2, 3, 4, 5]⟩,
    ⟨(some 9), 9, (.mv (.t 16)), none, [6, 7, 0, 1, 2, 3, 4, 5, 6, 7]⟩])
  (.seq (.reg [⟨(some 17), 17, (.load true 2 (.t 3)), none, []⟩,
    ⟨(some 18), 18, (.mv (.t 8)), none, []⟩,
    ⟨(some 19), 19, (.mv (.t 8)), none, []⟩,
    ⟨(some 20), 20, (.len (.t 19)), none, [2]⟩,
    ⟨(some 21), 21, (.call 27 [(.t 17), (.t 18), (.t 20)]), none, [0, 1, 3]⟩,
    ⟨(some 22), 22, (.mv (.t 9)), none, []⟩,
    ⟨none, 29, (.store 2 (.t 6) (.t 21)), none, [4, 4, 0, 1, 2, 3, 4]⟩,
    ⟨(some 7), 7, (.mv (.t 22)), none, [5, 6, 0, 1, 2, 3, 4, 5, 6]⟩])
  .ret)))
theorem fn38 : FnIs Try.prog 38 ac38 [(.cell 6 true 2), (.t 7)] 23 := ⟨Try.f38, Try.func38, by kernel_rfl, by kernel_rfl, by kernel_rfl⟩
/- lockkeeper/lockkeeperref03.Right -/
def ac39 : ACode := (.seq (.reg [⟨(some 1), 1, (.box 25 2 (.t 0)), none, []⟩,
    ⟨(some 2), 2, (.mv (.k (.c (.s (.pv (.bool false)))))), none, []⟩])
  (.seq (.seq (.reg [⟨(some 6), 6, (.fld 0 (.t 1)), none, []⟩,
    ⟨(some 7), 7, (.load false 1 (.t 6)), none, [0]⟩,
    ⟨(some 8), 8, (.len (.t 7)), none, [1]⟩,
    ⟨(some 9), 9, (.bin false .lss (.t 8) (.k (.c (.s (.pv (.int .i64 1)))))), none, [2]⟩,
    ⟨(some 10), 10, (.mv (.t 9)), none, [3]⟩,
    ⟨(some 11), 11, (.fld 0 (.t 1)), (some (10, false)), [4]⟩,
    ⟨(some 12), 12, (.load false 1 (.t 11)), (some (10, false)), [5, 4]⟩,
    ⟨(some 13), 13, (.len (.t 12)), (some (10, false)), [6, 4]⟩,
    ⟨(some 14), 14, (.bin false .gtr (.t 13) (.k (.c (.s (.pv (.int .i64 64)))))), (some (10, false)), [7, 4]⟩,
    ⟨(some 15), 15, (.pick (.t 10) (.k (.c (.s (.pv (.bool true))))) (.t 14)), none, [4, 8]⟩,
    ⟨(some 16), 16, (.mv (.t 15)), none, [9, 4]⟩,
    ⟨(some 17), 17, (.fld 1 (.t 1)), (some (16, false)), [10]⟩,
    ⟨(some 18), 18, (.load false 1 (.t 17)), (some (16, false)), [11, 10]⟩,
    ⟨(some 19), 19, (.len (.t 18)), (some (16, false)), [12, 10]⟩,
    ⟨(some 20), 20, (.bin false .gtr (.t 19) (.k (.c (.s (.pv (.int .i64 200)))))), (some (16, false)), [13, 10]⟩,
    ⟨(some 21), 21, (.pick (.t 16) (.k (.c (.s (.pv (.bool true))))) (.t 20)), none, [10, 14]⟩])
  (.cond (.t 21) (.seq (.reg [⟨(some 2), 2, (.mv (.k (.c (.s (.pv (.bool false)))))), none, []⟩])
  .ret) .skip))
  (.seq (.seq (.reg [⟨(some 3), 3, (.mv (.k (.c (.s (.pv (.int .i64 0)))))), none, []⟩])
  (.block 0 (.loop (.seq (.seq (.reg [⟨(some 22), 22, (.mv (.t 3)), none, []⟩,
    ⟨(some 23), 23, (.fld 0 (.t 1)), none, []⟩,
    ⟨(some 24), 24, (.load false 1 (.t 23)), none, [1]⟩,
    ⟨(some 25), 25, (.len (.t 24)), none, [2]⟩,
    ⟨(some 26), 26, (.bin false .lss (.t 22) (.t 25)), none, [0, 3]⟩])
  (.cond (.t 26) .skip (.exit 0)))
  (.seq (.block 1 (.seq (.reg [⟨(some 29), 29, (.fld 0 (.t 1)), none, []⟩,
    ⟨(some 30), 30, (.load false 1 (.t 29)), none, [0]⟩,
    ⟨(some 31), 31, (.mv (.t 3)), none, []⟩,
    ⟨(some 32), 32, (.idx 1 (.t 30) (.t 31)), none, [1, 2]⟩,
    ⟨(some 33), 33, (.load false 1 (.t 32)), none, [3]⟩,
    ⟨(some 34), 34, (.slen (.t 33)), none, [4]⟩,
    ⟨(some 35), 35, (.bin false .neq (.t 34) (.k (.c (.s (.pv (.int .i64 16)))))), none, [5]⟩])
  (.cond (.t 35) (.seq (.reg [⟨(some 2), 2, (.mv (.k (.c (.s (.pv (.bool false)))))), none, []⟩])
  .ret) .skip)))
  (.reg [⟨(some 27), 27, (.mv (.t 3)), none, []⟩,
    ⟨(some 28), 28, (.bin false .add (.t 27) (.k (.c (.s (.pv (.int .i64 1)))))), none, [0]⟩,
    ⟨(some 3), 3, (.mv (.t 28)), none, [1, 0, 1]⟩]))))))
  (.seq (.seq (.reg [⟨(some 4), 4, (.mv (.k (.c (.s (.pv (.int .i64 0)))))), none, []⟩])
  (.block 2 (.loop (.seq (.seq (.reg [⟨(some 36), 36, (.mv (.t 4)), none, []⟩,
    ⟨(some 37), 37, (.fld 1 (.t 1)), none, []⟩,
    ⟨(some 38), 38, (.load false 1 (.t 37)), none, [1]⟩,
    ⟨(some 39), 39, (.len (.t 38)), none, [2]⟩,
    ⟨(some 40), 40, (.bin false .lss (.t 36) (.t 39)), none, [0, 3]⟩])
  (.cond (.t 40) .skip (.exit 2)))
  (.seq (.block 3 (.seq (.reg [⟨(some 43), 43, (.fld 1 (.t 1)), none, []⟩,
    ⟨(some 44), 44, (.load false 1 (.t 43)), none, [0]⟩,
    ⟨(some 45), 45, (.mv (.t 4)), none, []⟩,
    ⟨(some 46), 46, (.idx 2 (.t 44) (.t 45)), none, [1, 2]⟩,
    ⟨(some 47), 47, (.load true 2 (.t 46)), none, [3]⟩,
    ⟨(some 5), 5, (.mk 60 2 [[(.s (.pv (.int .i64 0))), (.s (.pv (.string ⟨#[]⟩)))]]), none, []⟩,
    ⟨none, 71, (.store 2 (.t 5) (.t 47)), none, [5, 4, 0, 1, 2, 3, 4, 5]⟩])
  (.seq (.reg [⟨(some 48), 48, (.fld 0 (.t 5)), none, []⟩,
    ⟨(some 49), 49, (.load false 1 (.t 48)), none, [0]⟩,
    ⟨(some 50), 50, (.bin false .lss (.t 49) (.k (.c (.s (.pv (.int .i64 0)))))), none, [1]⟩,
    ⟨(some 51), 51, (.mv (.t 50)), none, [2]⟩,
    ⟨(some 52), 52, (.fld 0 (.t 5)), (some (51, false)), [3]⟩,
    ⟨(some 53), 53, (.load false 1 (.t 52)), (some (51, false)), [4, 3]⟩,
    ⟨(some 54), 54, (.fld 0 (.t 1)), (some (51, false)), [3]⟩,
    ⟨(some 55), 55, (.load false 1 (.t 54)), (some (51, false)), [6, 3]⟩,
    ⟨(some 56), 56, (.len (.t 55)), (some (51, false)), [7, 3]⟩,
    ⟨(some 57), 57, (.bin false .geq (.t 53) (.t 56)), (some (51, false)), [5, 8, 3]⟩,
    ⟨(some 58), 58, (.pick (.t 51) (.k (.c (.s (.pv (.bool true))))) (.t 57)), none, [3, 9]⟩,
    ⟨(some 59), 59, (.mv (.t 58)), none, [10, 3]⟩,
    ⟨(some 60), 60, (.fld 1 (.t 5)), (some (59, false)), [11]⟩,
    ⟨(some 61), 61, (.load false 1 (.t 60)), (some (59, false)), [12, 11]⟩,
    ⟨(some 62), 62, (.slen (.t 61)), (some (59, false)), [13, 11]⟩,
    ⟨(some 63), 63, (.bin false .neq (.t 62) (.k (.c (.s (.pv (.int .i64 16)))))), (some (59, false)), [14, 11]⟩,
    ⟨(some 64), 64, (.pick (.t 59) (.k (.c (.s (.pv (.bool true))))) (.t 63)), none, [11, 15]⟩])
  (.cond (.t 64) (.seq (.reg [⟨(some 2), 2, (.mv (.k (.c (.s (.pv (.bool false)))))), none, []⟩])
  .ret) .skip))))
  (.reg [⟨(some 41), 41, (.mv (.t 4)), none, []⟩,
    ⟨(some 42), 42, (.bin false .add (.t 41) (.k (.c (.s (.pv (.int .i64 1)))))), none, [0]⟩,
    ⟨(some 4), 4, (.mv (.t 42)), none, [1, 0, 1]⟩]))))))
  (.seq (.reg [⟨(some 2), 2, (.mv (.k (.c (.s (.pv (.bool true)))))), none, []⟩])
  .ret)))))
theorem fn39 : FnIs Try.prog 39 ac39 [(.t 2)] 65 := ⟨Try.f39, Try.func39, by kernel_rfl, by kernel_rfl, by kernel_rfl⟩
/- lockkeeper/lockkeeperref03.Sync -/
def ac40 : ACode := (.seq (.reg [⟨(some 1), 1, (.box 25 2 (.t 0)), none, []⟩,
    ⟨(some 2), 2, (.mk 25 2 [[.zc, .zc]]), none, []⟩])
  (.seq (.reg [⟨(some 3), 3, (.mk 25 2 [[.zc, .zc]]), none, []⟩])
  (.seq (.seq (.reg [⟨(some 4), 4, (.mv (.k (.c (.s (.pv (.int .i64 0)))))), none, []⟩])
  (.block 0 (.loop (.seq (.seq (.reg [⟨(some 5), 5, (.mv (.t 4)), none, []⟩,
    ⟨(some 6), 6, (.fld 0 (.t 1)), none, []⟩,
    ⟨(some 7), 7, (.load false 1 (.t 6)), none, [1]⟩,
    ⟨(some 8), 8, (.len (.t 7)), none, [2]⟩,
    ⟨(some 9), 9, (.bin false .lss (.t 5) (.t 8)), none, [0, 3]⟩])
  (.cond (.t 9) .skip (.exit 0)))
  (.seq (.block 1 (.draw [⟨(some 12), 12, (.fld 0 (.t 3)), none, []⟩,
    ⟨(some 13), 13, (.load false 1 (.t 12)), none, [0]⟩,
    ⟨(some 14), 14, (.load true 2 (.t 1)), none, []⟩,
    ⟨(some 15), 15, (.mv (.t 4)), none, []⟩,
    ⟨(some 16), 16, (.call 54 [(.t 14), (.t 15)]), none, [2, 3]⟩,
    ⟨(some 17), 17, (.bslice 9 1 [(.s (.pv (.string ⟨#[]⟩)))] 1 [(0, 1, (.t 16))]), none, [4]⟩,
    ⟨(some 18), 18, (.app 9 1 16 (.t 13) (.t 17)), none, [1, 5, 4]⟩,
    ⟨(some 19), 19, (.fld 0 (.t 3)), none, [0, 1, 2, 3, 4, 5, 6]⟩,
    ⟨none, 29, (.store 1 (.t 19) (.t 18)), none, [7, 6, 6, 0, 1, 2, 3, 4, 5, 6]⟩]))
  (.reg [⟨(some 10), 10, (.mv (.t 4)), none, []⟩,
    ⟨(some 11), 11, (.bin false .add (.t 10) (.k (.c (.s (.pv (.int .i64 1)))))), none, [0]⟩,
    ⟨(some 4), 4, (.mv (.t 11)), none, [1, 0, 1]⟩]))))))
  (.seq (.reg [⟨(some 20), 20, (.load true 2 (.t 3)), none, []⟩,
    ⟨none, 22, (.store 2 (.t 2) (.t 20)), none, [0, 0]⟩])
  .ret))))
theorem fn40 : FnIs Try.prog 40 ac40 [(.cell 2 true 2)] 21 := ⟨Try.f40, Try.func40, by kernel_rfl, by kernel_rfl, by kernel_rfl⟩
/- lockkeeper/journal.Repair -/
def ac43 : ACode := (.seq (.reg [⟨(some 1), 1, (.box 25 2 (.t 0)), none, []⟩,
    ⟨(some 2), 2, (.mv (.k (.c .zc))), none, []⟩])
  (.seq (.seq (.reg [⟨(some 12), 12, (.load true 2 (.t 1)), none, []⟩,
    ⟨(some 13), 13, (.call 48 [(.t 12)]), none, [0]⟩,
    ⟨(some 14), 14, (.not (.t 13)), none, [1]⟩])
  (.cond (.t 14) (.seq (.reg [⟨(some 2), 2, (.mv (.k (.c .zc))), none, []⟩])
  .ret) .skip))
  (.seq (.reg [⟨(some 16), 16, (.load true 2 (.t 1)), none, []⟩,
    ⟨(some 17), 17, (.call 50 [(.t 16), (.k (.c (.s (.pv (.int .i64 0)))))]), none, [0]⟩,
    ⟨(some 15), 15, (.mv (.t 17)), none, [1]⟩,
    ⟨(some 18), 18, (.ext 0 (.t 15)), none, [2]⟩,
    ⟨(some 19), 19, (.ext 1 (.t 15)), none, [2]⟩,
    ⟨(some 3), 3, (.mv (.t 18)), none, [3, 1, 0, 1, 2, 3]⟩,
    ⟨(some 4), 4, (.mv (.t 19)), none, [4, 5, 0, 1, 2, 3, 4, 5]⟩])
  (.seq (.seq (.reg [⟨(some 20), 20, (.mv (.t 3)), none, []⟩,
    ⟨(some 21), 21, (.bin false .eql (.t 20) (.k (.c (.s (.pv (.string ⟨#[0, 0, 0, 0, 0, 0, 0, 0, 0, 0, 0, 0, 0, 0, 0, 0]⟩)))))), none, [0]⟩])
  (.cond (.t 21) (.seq (.reg [⟨(some 2), 2, (.mv (.k (.c .zc))), none, []⟩])
  .ret) .skip))
  (.seq (.reg [⟨(some 5), 5, (.mv (.k (.c .zc))), none, []⟩])
  (.seq (.seq (.reg [⟨(some 23), 23, (.mv (.t 3)), none, []⟩,
    ⟨(some 24), 24, (.call 72 [(.t 23)]), none, [0]⟩,
    ⟨(some 22), 22, (.mv (.t 24)), none, [1]⟩,
    ⟨(some 25), 25, (.ext 0 (.t 22)), none, [2]⟩,
    ⟨(some 26), 26, (.ext 1 (.t 22)), none, [2]⟩,
    ⟨(some 6), 6, (.mv (.t 25)), none, [3, 1, 0, 1, 2, 3]⟩,
    ⟨(some 7), 7, (.mv (.t 26)), none, [4, 5, 0, 1, 2, 3, 4, 5]⟩])
  (.seq (.reg [⟨(some 27), 27, (.mv (.t 7)), none, []⟩])
  (.cond (.t 27) (.seq (.reg [⟨(some 29), 29, (.load true 2 (.t 1)), none, []⟩,
    ⟨(some 30), 30, (.call 50 [(.t 29), (.k (.c (.s (.pv (.int .i64 1)))))]), none, [0]⟩,
    ⟨(some 28), 28, (.mv (.t 30)), none, [1]⟩,
    ⟨(some 31), 31, (.ext 0 (.t 28)), none, [2]⟩,
    ⟨(some 32), 32, (.ext 1 (.t 28)), none, [2]⟩,
    ⟨(some 8), 8, (.mv (.t 31)), none, [3, 1, 0, 1, 2, 3]⟩,
    ⟨(some 9), 9, (.mv (.t 32)), none, [4, 5, 0, 1, 2, 3, 4, 5]⟩])
  (.seq (.reg [⟨(some 34), 34, (.load true 2 (.t 1)), none, []⟩,
    ⟨(some 35), 35, (.call 50 [(.t 34), (.k (.c (.s (.pv (.int .i64 2)))))]), none, [0]⟩,
    ⟨(some 33), 33, (.mv (.t 35)), none, [1]⟩,
    ⟨(some 36), 36, (.ext 0 (.t 33)), none, [2]⟩,
    ⟨(some 37), 37, (.ext 1 (.t 33)), none, [2]⟩,
    ⟨(some 10), 10, (.mv (.t 36)), none, [3, 1, 0, 1, 2, 3]⟩,
    ⟨(some 11), 11, (.mv (.t 37)), none, [4, 5, 0, 1, 2, 3, 4, 5]⟩])
  (.reg [⟨(some 38), 38, (.mv (.t 5)), none, []⟩,
    ⟨(some 39), 39, (.mv (.t 6)), none, []⟩,
    ⟨(some 40), 40, (.call 51 [(.t 39)]), none, [1]⟩,
    ⟨(some 41), 41, (.mv (.t 8)), none, []⟩,
    ⟨(some 42), 42, (.call 63 [(.t 40), (.t 41)]), none, [2, 3, 2]⟩,
    ⟨(some 43), 43, (.mv (.t 6)), none, []⟩,
    ⟨(some 44), 44, (.call 51 [(.t 43)]), none, [5, 4]⟩,
    ⟨(some 45), 45, (.bin false .add (.t 44) (.k (.c (.s (.pv (.int .i64 1)))))), none, [6]⟩,
    ⟨(some 46), 46, (.mv (.t 10)), none, []⟩,
    ⟨(some 47), 47, (.call 63 [(.t 45), (.t 46)]), none, [7, 8, 6]⟩,
    ⟨(some 48), 48, (.call 64 []), none, [9]⟩,
    ⟨(some 49), 49, (.bslice 71 3 [(.s (.pv (.bool false))), (.s (.pv (.int .i64 0))), (.s (.pv (.string ⟨#[]⟩)))] 3 [(0, 3, (.t 42)), (3, 3, (.t 47)), (6, 3, (.t 48))]), none, [4, 9, 10]⟩,
    ⟨(some 50), 50, (.app 71 3 32 (.t 38) (.t 49)), none, [0, 11, 10]⟩,
    ⟨(some 5), 5, (.mv (.t 50)), none, [12, 12, 0, 1, 2, 3, 4, 5, 6, 7, 8, 9, 10, 11, 12]⟩]))) .skip)))
  (.seq (.reg [⟨(some 51), 51, (.mv (.t 5)), none, []⟩,
    ⟨(some 52), 52, (.call 63 [(.k (.c (.s (.pv (.int .i64 0))))), (.k (.c (.s (.pv (.string ⟨#[0, 0, 0, 0, 0, 0, 0, 0, 0, 0, 0, 0, 0, 0, 0, 0]⟩)))))]), none, []⟩,
    ⟨(some 53), 53, (.call 64 []), none, [1]⟩,
    ⟨(some 54), 54, (.bslice 71 3 [(.s (.pv (.bool false))), (.s (.pv (.int .i64 0))), (.s (.pv (.string ⟨#[]⟩)))] 2 [(0, 3, (.t 52)), (3, 3, (.t 53))]), none, [1, 2]⟩,
    ⟨(some 55), 55, (.app 71 3 32 (.t 51) (.t 54)), none, [0, 3, 2]⟩,
    ⟨(some 2), 2, (.mv (.t 55)), none, [4, 4, 0, 1, 2, 3, 4]⟩])
  .ret)))))))
theorem fn43 : FnIs Try.prog 43 ac43 [(.t 2)] 56 := ⟨Try.f43, Try.func43, by kernel_rfl, by kernel_rfl, by kernel_rfl⟩
/- lockkeeper/disk.Right -/
def ac44 : ACode := (.seq (.reg [⟨(some 1), 1, (.box 25 2 (.t 0)), none, []⟩,
    ⟨(some 2), 2, (.mv (.k (.c (.s (.pv (.bool false)))))), none, []⟩])
  (.seq (.seq (.reg [⟨(some 7), 7, (.fld 0 (.t 1)), none, []⟩,
    ⟨(some 8), 8, (.load false 1 (.t 7)), none, [0]⟩,
    ⟨(some 9), 9, (.len (.t 8)), none, [1]⟩,
    ⟨(some 10), 10, (.bin false .lss (.t 9) (.k (.c (.s (.pv (.int .i64 1)))))), none, [2]⟩,
    ⟨(some 11), 11, (.mv (.t 10)), none, [3]⟩,
    ⟨(some 12), 12, (.fld 0 (.t 1)), (some (11, false)), [4]⟩,
    ⟨(some 13), 13, (.load false 1 (.t 12)), (some (11, false)), [5, 4]⟩,
    ⟨(some 14), 14, (.len (.t 13)), (some (11, false)), [6, 4]⟩,
    ⟨(some 15), 15, (.bin false .gtr (.t 14) (.k (.c (.s (.pv (.int .i64 64)))))), (some (11, false)), [7, 4]⟩,
    ⟨(some 16), 16, (.pick (.t 11) (.k (.c (.s (.pv (.bool true))))) (.t 15)), none, [4, 8]⟩,
    ⟨(some 17), 17, (.mv (.t 16)), none, [9, 4]⟩,
    ⟨(some 18), 18, (.fld 1 (.t 1)), (some (17, false)), [10]⟩,
    ⟨(some 19), 19, (.load false 1 (.t 18)), (some (17, false)), [11, 10]⟩,
    ⟨(some 20), 20, (.len (.t 19)), (some (17, false)), [12, 10]⟩,
    ⟨(some 21), 21, (.bin false .gtr (.t 20) (.k (.c (.s (.pv (.int .i64 200)))))), (some (17, false)), [13, 10]⟩,
    ⟨(some 22), 22, (.pick (.t 17) (.k (.c (.s (.pv (.bool true))))) (.t 21)), none, [10, 14]⟩])
  (.cond (.t 22) (.seq (.reg [⟨(some 2), 2, (.mv (.k (.c (.s (.pv (.bool false)))))), none, []⟩])
  .ret) .skip))
  (.seq (.seq (.reg [⟨(some 23), 23, (.fld 0 (.t 1)), none, []⟩,
    ⟨(some 24), 24, (.load false 1 (.t 23)), none, [0]⟩,
    ⟨(some 25), 25, (.len (.t 24)), none, [1]⟩,
    ⟨(some 26), 26, (.mv (.k (.c (.s (.pv (.int .i64 0)))))), none, []⟩])
  (.block 0 (.loop (.seq (.reg [⟨(some 27), 27, (.bin false .lss (.t 26) (.t 25)), none, []⟩])
  (.seq (.cond (.t 27) .skip (.exit 0))
  (.seq (.block 1 (.seq (.reg [⟨(some 28), 28, (.idx 1 (.t 24) (.t 26)), none, []⟩,
    ⟨(some 29), 29, (.load false 1 (.t 28)), none, [0]⟩,
    ⟨(some 4), 4, (.mv (.t 29)), none, [1, 0, 1]⟩])
  (.seq (.reg [⟨(some 30), 30, (.mv (.t 4)), none, []⟩,
    ⟨(some 31), 31, (.slen (.t 30)), none, [0]⟩,
    ⟨(some 32), 32, (.bin false .neq (.t 31) (.k (.c (.s (.pv (.int .i64 16)))))), none, [1]⟩])
  (.cond (.t 32) (.seq (.reg [⟨(some 2), 2, (.mv (.k (.c (.s (.pv (.bool false)))))), none, []⟩])
  .ret) .skip))))
  (.reg [⟨(some 33), 33, (.bin false .add (.t 26) (.k (.c (.s (.pv (.int .i64 1)))))), none, []⟩,
    ⟨(some 26), 26, (.mv (.t 33)), none, [0]⟩])))))))
  (.seq (.seq (.reg [⟨(some 34), 34, (.fld 1 (.t 1)), none, []⟩,
    ⟨(some 35), 35, (.load false 1 (.t 34)), none, [0]⟩,
    ⟨(some 36), 36, (.len (.t 35)), none, [1]⟩,
    ⟨(some 37), 37, (.mv (.k (.c (.s (.pv (.int .i64 0)))))), none, []⟩])
  (.block 2 (.loop (.seq (.reg [⟨(some 38), 38, (.bin false .lss (.t 37) (.t 36)), none, []⟩])
  (.seq (.cond (.t 38) .skip (.exit 2))
  (.seq (.block 3 (.seq (.reg [⟨(some 39), 39, (.idx 2 (.t 35) (.t 37)), none, []⟩,
    ⟨(some 40), 40, (.load true 2 (.t 39)), none, [0]⟩,
    ⟨(some 6), 6, (.mk 60 2 [[(.s (.pv (.int .i64 0))), (.s (.pv (.string ⟨#[]⟩)))]]), none, []⟩,
    ⟨none, 49, (.store 2 (.t 6) (.t 40)), none, [2, 1, 0, 1, 2]⟩])
  (.seq (.reg [⟨(some 41), 41, (.load true 2 (.t 1)), none, []⟩,
    ⟨(some 42), 42, (.load true 2 (.t 6)), none, []⟩,
    ⟨(some 43), 43, (.call 73 [(.t 41), (.t 42)]), none, [0, 1]⟩,
    ⟨(some 44), 44, (.not (.t 43)), none, [2]⟩])
  (.cond (.t 44) (.seq (.reg [⟨(some 2), 2, (.mv (.k (.c (.s (.pv (.bool false)))))), none, []⟩])
  .ret) .skip))))
  (.reg [⟨(some 45), 45, (.bin false .add (.t 37) (.k (.c (.s (.pv (.int .i64 1)))))), none, []⟩,
    ⟨(some 37), 37, (.mv (.t 45)), none, [0]⟩])))))))
  (.seq (.reg [⟨(some 2), 2, (.mv (.k (.c (.s (.pv (.bool true)))))), none, []⟩])
  .ret)))))
theorem fn44 : FnIs Try.prog 44 ac44 [(.t 2)] 46 := ⟨Try.f44, Try.func44, by kernel_rfl, by kernel_rfl, by kernel_rfl⟩
/- lockkeeper/disk.done -/
def ac45 : ACode := (.seq (.reg [⟨(some 2), 2, (.box 25 2 (.t 0)), none, []⟩,
    ⟨(some 4), 4, (.mk 25 2 [[.zc, .zc]]), none, []⟩])
  (.seq (.reg [⟨(some 8), 8, (.fld 0 (.t 2)), none, []⟩,
    ⟨(some 9), 9, (.load false 1 (.t 8)), none, [0]⟩,
    ⟨(some 10), 10, (.call 74 [(.t 9)]), none, [1]⟩,
    ⟨(some 5), 5, (.mv (.t 10)), none, [2, 2, 0, 1, 2]⟩])
  (.seq (.seq (.reg [⟨(some 11), 11, (.mv (.t 1)), none, []⟩,
    ⟨(some 12), 12, (.len (.t 11)), none, [0]⟩,
    ⟨(some 13), 13, (.mv (.k (.c (.s (.pv (.int .i64 0)))))), none, []⟩])
  (.block 0 (.loop (.seq (.reg [⟨(some 14), 14, (.bin false .lss (.t 13) (.t 12)), none, []⟩])
  (.seq (.cond (.t 14) .skip (.exit 0))
  (.seq (.block 1 (.seq (.reg [⟨(some 15), 15, (.idx 2 (.t 11) (.t 13)), none, []⟩,
    ⟨(some 16), 16, (.load true 2 (.t 15)), none, [0]⟩,
    ⟨(some 7), 7, (.mk 60 2 [[(.s (.pv (.int .i64 0))), (.s (.pv (.string ⟨#[]⟩)))]]), none, []⟩,
    ⟨none, 29, (.store 2 (.t 7) (.t 16)), none, [2, 1, 0, 1, 2]⟩])
  (.reg [⟨(some 17), 17, (.mv (.t 5)), none, []⟩,
    ⟨(some 18), 18, (.fld 0 (.t 7)), none, []⟩,
    ⟨(some 19), 19, (.load false 1 (.t 18)), none, [1]⟩,
    ⟨(some 20), 20, (.fld 1 (.t 7)), none, []⟩,
    ⟨(some 21), 21, (.load false 1 (.t 20)), none, [3]⟩,
    ⟨(some 22), 22, (.idx 1 (.t 17) (.t 19)), none, [0, 2, 0, 1, 2, 3, 4]⟩,
    ⟨none, 32, (.store 1 (.t 22) (.t 21)), none, [5, 4, 0, 1, 2, 3, 4]⟩])))
  (.reg [⟨(some 23), 23, (.bin false .add (.t 13) (.k (.c (.s (.pv (.int .i64 1)))))), none, []⟩,
    ⟨(some 13), 13, (.mv (.t 23)), none, [0]⟩])))))))
  (.seq (.reg [⟨(some 24), 24, (.mv (.t 5)), none, []⟩,
    ⟨(some 25), 25, (.build [.zc, .zc] [(0, 1, (.t 24))]), none, [0]⟩,
    ⟨none, 28, (.store 2 (.t 4) (.t 25)), none, [1, 0, 1]⟩])
  .ret))))
theorem fn45 : FnIs Try.prog 45 ac45 [(.cell 4 true 2)] 26 := ⟨Try.f45, Try.func45, by kernel_rfl, by kernel_rfl, by kernel_rfl⟩
/- lockkeeper/disk.Sync -/
def ac46 : ACode := (.seq (.reg [⟨(some 1), 1, (.box 25 2 (.t 0)), none, []⟩,
    ⟨(some 2), 2, (.mk 25 2 [[.zc, .zc]]), none, []⟩])
  (.seq (.seq (.reg [⟨(some 3), 3, (.load true 2 (.t 1)), none, []⟩,
    ⟨(some 4), 4, (.call 44 [(.t 3)]), none, [0]⟩,
    ⟨(some 5), 5, (.not (.t 4)), none, [1]⟩])
  (.cond (.t 5) (.seq (.reg [⟨(some 6), 6, (.load true 2 (.t 1)), none, []⟩,
    ⟨none, 12, (.store 2 (.t 2) (.t 6)), none, [0, 0]⟩])
  .ret) .skip))
  (.seq (.reg [⟨(some 7), 7, (.load true 2 (.t 1)), none, []⟩,
    ⟨(some 8), 8, (.fld 1 (.t 1)), none, []⟩,
    ⟨(some 9), 9, (.load false 1 (.t 8)), none, [1]⟩,
    ⟨(some 10), 10, (.call 45 [(.t 7), (.t 9)]), none, [0, 2]⟩,
    ⟨none, 15, (.store 2 (.t 2) (.t 10)), none, [3, 3, 0, 1, 2, 3]⟩])
  .ret)))
theorem fn46 : FnIs Try.prog 46 ac46 [(.cell 2 true 2)] 11 := ⟨Try.f46, Try.func46, by kernel_rfl, by kernel_rfl, by kernel_rfl⟩
/- lockkeeper/disk.Put -/
def ac47 : ACode := (.seq (.reg [⟨(some 2), 2, (.box 25 2 (.t 0)), none, []⟩,
    ⟨(some 3), 3, (.box 60 2 (.t 1)), none, []⟩,
    ⟨(some 4), 4, (.mk 25 2 [[.zc, .zc]]), none, []⟩,
    ⟨(some 5), 5, (.mv (.k (.c (.s (.pv (.int .i64 0)))))), none, []⟩])
  (.seq (.seq (.reg [⟨(some 6), 6, (.load true 2 (.t 2)), none, []⟩,
    ⟨(some 7), 7, (.call 44 [(.t 6)]), none, [0]⟩,
    ⟨(some 8), 8, (.not (.t 7)), none, [1]⟩,
    ⟨(some 9), 9, (.mv (.t 8)), none, [2, 1]⟩,
    ⟨(some 10), 10, (.load true 2 (.t 2)), (some (9, false)), [3]⟩,
    ⟨(some 11), 11, (.load true 2 (.t 3)), (some (9, false)), [3]⟩,
    ⟨(some 12), 12, (.call 73 [(.t 10), (.t 11)]), (some (9, false)), [4, 5, 3, 3]⟩,
    ⟨(some 13), 13, (.not (.t 12)), (some (9, false)), [6, 3]⟩,
    ⟨(some 14), 14, (.pick (.t 9) (.k (.c (.s (.pv (.bool true))))) (.t 13)), none, [3, 7]⟩])
  (.cond (.t 14) (.seq (.reg [⟨(some 15), 15, (.load true 2 (.t 2)), none, []⟩,
    ⟨none, 31, (.store 2 (.t 4) (.t 15)), none, [0, 0]⟩,
    ⟨(some 5), 5, (.mv (.k (.c (.s (.pv (.int .i64 1)))))), none, [1, 0, 1]⟩])
  .ret) .skip))
  (.seq (.seq (.reg [⟨(some 16), 16, (.fld 1 (.t 2)), none, []⟩,
    ⟨(some 17), 17, (.load false 1 (.t 16)), none, [0]⟩,
    ⟨(some 18), 18, (.len (.t 17)), none, [1]⟩,
    ⟨(some 19), 19, (.bin false .eql (.t 18) (.k (.c (.s (.pv (.int .i64 200)))))), none, [2]⟩])
  (.cond (.t 19) (.seq (.reg [⟨(some 20), 20, (.load true 2 (.t 2)), none, []⟩,
    ⟨none, 31, (.store 2 (.t 4) (.t 20)), none, [0, 0]⟩,
    ⟨(some 5), 5, (.mv (.k (.c (.s (.pv (.int .i64 7)))))), none, [1, 0, 1]⟩])
  .ret) .skip))
  (.seq (.draw [⟨(some 21), 21, (.fld 0 (.t 2)), none, []⟩,
    ⟨(some 22), 22, (.load false 1 (.t 21)), none, [0]⟩,
    ⟨(some 23), 23, (.fld 1 (.t 2)), none, []⟩,
    ⟨(some 24), 24, (.load false 1 (.t 23)), none, [2]⟩,
    ⟨(some 25), 25, (.call 75 [(.t 24)]), none, [3]⟩,
    ⟨(some 26), 26, (.load true 2 (.t 3)), none, []⟩,
    ⟨(some 27), 27, (.bslice 60 2 [(.s (.pv (.int .i64 0))), (.s (.pv (.string ⟨#[]⟩)))] 1 [(0, 2, (.t 26))]), none, [5]⟩,
    ⟨(some 28), 28, (.app 60 2 24 (.t 25) (.t 27)), none, [4, 6, 4]⟩,
    ⟨(some 29), 29, (.build [.zc, .zc] [(0, 1, (.t 22)), (1, 1, (.t 28))]), none, [1, 7]⟩,
    ⟨none, 39, (.store 2 (.t 4) (.t 29)), none, [8, 7, 0, 1, 2, 3, 4, 5, 6, 7, 8]⟩,
    ⟨(some 5), 5, (.mv (.k (.c (.s (.pv (.int .i64 0)))))), none, [9, 0, 1, 2, 3, 4, 5, 6, 7, 8, 9]⟩])
  .ret))))
theorem fn47 : FnIs Try.prog 47 ac47 [(.cell 4 true 2), (.t 5)] 30 := ⟨Try.f47, Try.func47, by kernel_rfl, by kernel_rfl, by kernel_rfl⟩
/- lockkeeper/journal.usable -/
def ac48 : ACode := (.seq (.reg [⟨(some 1), 1, (.box 25 2 (.t 0)), none, []⟩,
    ⟨(some 2), 2, (.mv (.k (.c (.s (.pv (.bool false)))))), none, []⟩])
  (.seq (.reg [⟨(some 3), 3, (.load true 2 (.t 1)), none, []⟩,
    ⟨(some 4), 4, (.call 44 [(.t 3)]), none, [0]⟩,
    ⟨(some 5), 5, (.mv (.t 4)), none, [1, 1]⟩,
    ⟨(some 6), 6, (.fld 0 (.t 1)), (some (5, true)), [2]⟩,
    ⟨(some 7), 7, (.load false 1 (.t 6)), (some (5, true)), [3, 2]⟩,
    ⟨(some 8), 8, (.len (.t 7)), (some (5, true)), [4, 2]⟩,
    ⟨(some 9), 9, (.bin false .geq (.t 8) (.k (.c (.s (.pv (.int .i64 35)))))), (some (5, true)), [5, 2]⟩,
    ⟨(some 10), 10, (.pick (.t 5) (.t 9) (.k (.c (.s (.pv (.bool false)))))), none, [2, 6]⟩,
    ⟨(some 2), 2, (.mv (.t 10)), none, [7, 2, 0, 1, 2, 3, 4, 5, 6, 7]⟩])
  .ret))
theorem fn48 : FnIs Try.prog 48 ac48 [(.t 2)] 11 := ⟨Try.f48, Try.func48, by kernel_rfl, by kernel_rfl, by kernel_rfl⟩
/- lockkeeper/journal.isPage -/
def ac49 : ACode := (.seq (.reg [⟨(some 2), 2, (.mv (.k (.c (.s (.pv (.bool false)))))), none, []⟩])
  (.seq (.reg [⟨(some 3), 3, (.mv (.t 0)), none, []⟩,
    ⟨(some 4), 4, (.bin false .geq (.t 3) (.k (.c (.s (.pv (.int .i64 1)))))), none, [0]⟩,
    ⟨(some 5), 5, (.mv (.t 4)), none, [1]⟩,
    ⟨(some 6), 6, (.mv (.t 0)), (some (5, true)), [2]⟩,
    ⟨(some 7), 7, (.bin false .leq (.t 6) (.k (.c (.s (.pv (.int .i64 16)))))), (some (5, true)), [3, 2]⟩,
    ⟨(some 8), 8, (.pick (.t 5) (.t 7) (.k (.c (.s (.pv (.bool false)))))), none, [2, 4]⟩,
    ⟨(some 2), 2, (.mv (.t 8)), none, [5, 2, 0, 1, 2, 3, 4, 5]⟩])
  .ret))
theorem fn49 : FnIs Try.prog 49 ac49 [(.t 2)] 9 := ⟨Try.f49, Try.func49, by kernel_rfl, by kernel_rfl, by kernel_rfl⟩
/- lockkeeper/journal.home -/
def ac51 : ACode := (.seq (.reg [⟨(some 2), 2, (.mv (.k (.c (.s (.pv (.int .i64 0)))))), none, []⟩])
  (.seq (.reg [⟨(some 3), 3, (.mv (.t 0)), none, []⟩,
    ⟨(some 4), 4, (.bin false .mul (.k (.c (.s (.pv (.int .i64 2))))) (.t 3)), none, [0]⟩,
    ⟨(some 5), 5, (.bin false .add (.t 4) (.k (.c (.s (.pv (.int .i64 1)))))), none, [1]⟩,
    ⟨(some 2), 2, (.mv (.t 5)), none, [2, 0, 1, 2]⟩])
  .ret))
theorem fn51 : FnIs Try.prog 51 ac51 [(.t 2)] 6 := ⟨Try.f51, Try.func51, by kernel_rfl, by kernel_rfl, by kernel_rfl⟩
/- lockkeeper/lockkeeperref03.Read -/
def ac54 : ACode := (.seq (.reg [⟨(some 2), 2, (.box 25 2 (.t 0)), none, []⟩,
    ⟨(some 4), 4, (.mv (.k (.c (.s (.pv (.string ⟨#[]⟩)))))), none, []⟩])
  (.seq (.seq (.reg [⟨(some 6), 6, (.fld 1 (.t 2)), none, []⟩,
    ⟨(some 7), 7, (.load false 1 (.t 6)), none, [0]⟩,
    ⟨(some 8), 8, (.len (.t 7)), none, [1]⟩,
    ⟨(some 9), 9, (.bin false .sub (.t 8) (.k (.c (.s (.pv (.int .i64 1)))))), none, [2]⟩,
    ⟨(some 5), 5, (.mv (.t 9)), none, [3, 0, 1, 2, 3]⟩])
  (.block 0 (.loop (.seq (.seq (.reg [⟨(some 10), 10, (.mv (.t 5)), none, []⟩,
    ⟨(some 11), 11, (.bin false .geq (.t 10) (.k (.c (.s (.pv (.int .i64 0)))))), none, [0]⟩])
  (.cond (.t 11) .skip (.exit 0)))
  (.seq (.block 1 (.seq (.reg [⟨(some 14), 14, (.fld 1 (.t 2)), none, []⟩,
    ⟨(some 15), 15, (.load false 1 (.t 14)), none, [0]⟩,
    ⟨(some 16), 16, (.mv (.t 5)), none, []⟩,
    ⟨(some 17), 17, (.idx 2 (.t 15) (.t 16)), none, [1, 2]⟩,
    ⟨(some 18), 18, (.fld 0 (.t 17)), none, [3]⟩,
    ⟨(some 19), 19, (.load false 1 (.t 18)), none, [4]⟩,
    ⟨(some 20), 20, (.mv (.t 1)), none, []⟩,
    ⟨(some 21), 21, (.bin false .eql (.t 19) (.t 20)), none, [5, 6]⟩])
  (.cond (.t 21) (.seq (.reg [⟨(some 22), 22, (.fld 1 (.t 2)), none, []⟩,
    ⟨(some 23), 23, (.load false 1 (.t 22)), none, [0]⟩,
    ⟨(some 24), 24, (.mv (.t 5)), none, []⟩,
    ⟨(some 25), 25, (.idx 2 (.t 23) (.t 24)), none, [1, 2]⟩,
    ⟨(some 26), 26, (.fld 1 (.t 25)), none, [3]⟩,
    ⟨(some 27), 27, (.load false 1 (.t 26)), none, [4]⟩,
    ⟨(some 4), 4, (.mv (.t 27)), none, [5, 0, 1, 2, 3, 4, 5]⟩])
  .ret) .skip)))
  (.reg [⟨(some 12), 12, (.mv (.t 5)), none, []⟩,
    ⟨(some 13), 13, (.bin false .sub (.t 12) (.k (.c (.s (.pv (.int .i64 1)))))), none, [0]⟩,
    ⟨(some 5), 5, (.mv (.t 13)), none, [1, 0, 1]⟩]))))))
  (.seq (.reg [⟨(some 28), 28, (.fld 0 (.t 2)), none, []⟩,
    ⟨(some 29), 29, (.load false 1 (.t 28)), none, [0]⟩,
    ⟨(some 30), 30, (.mv (.t 1)), none, []⟩,
    ⟨(some 31), 31, (.idx 1 (.t 29) (.t 30)), none, [1, 2]⟩,
    ⟨(some 32), 32, (.load false 1 (.t 31)), none, [3]⟩,
    ⟨(some 4), 4, (.mv (.t 32)), none, [4, 0, 1, 2, 3, 4]⟩])
  .ret)))
theorem fn54 : FnIs Try.prog 54 ac54 [(.t 4)] 33 := ⟨Try.f54, Try.func54, by kernel_rfl, by kernel_rfl, by kernel_rfl⟩
/- lockkeeper/lockkeeperref12.at -/
def ac55 : ACode := (.seq (.reg [⟨(some 4), 4, (.mk 70 3 [[(.s (.pv (.bool false))), (.s (.pv (.int .i64 0))), (.s (.pv (.string ⟨#[]⟩)))]]), none, []⟩])
  (.seq (.reg [⟨(some 5), 5, (.mv (.t 0)), none, []⟩,
    ⟨(some 6), 6, (.mv (.t 1)), none, []⟩,
    ⟨(some 7), 7, (.build [(.s (.pv (.int .i64 0))), (.s (.pv (.string ⟨#[]⟩)))] [(0, 1, (.t 5)), (1, 1, (.t 6))]), none, [0, 1]⟩,
    ⟨(some 8), 8, (.build [(.s (.pv (.bool false))), (.s (.pv (.int .i64 0))), (.s (.pv (.string ⟨#[]⟩)))] [(1, 2, (.t 7))]), none, [2]⟩,
    ⟨none, 13, (.store 3 (.t 4) (.t 8)), none, [3, 0, 1, 2, 3]⟩])
  .ret))
theorem fn55 : FnIs Try.prog 55 ac55 [(.cell 4 true 3)] 9 := ⟨Try.f55, Try.func55, by kernel_rfl, by kernel_rfl, by kernel_rfl⟩
/- lockkeeper/lockkeeperref12.filled -/
def ac56 : ACode := (.seq (.reg [⟨(some 2), 2, (.mv (.k (.c (.s (.pv (.string ⟨#[]⟩)))))), none, []⟩])
  (.seq (.block 0 (.loop (.seq (.seq (.reg [⟨(some 3), 3, (.mv (.t 0)), none, []⟩,
    ⟨(some 4), 4, (.slen (.t 3)), none, [0]⟩,
    ⟨(some 5), 5, (.bin false .lss (.t 4) (.k (.c (.s (.pv (.int .i64 16)))))), none, [1]⟩])
  (.cond (.t 5) .skip (.exit 0)))
  (.block 1 (.reg [⟨(some 6), 6, (.mv (.t 0)), none, []⟩,
    ⟨(some 7), 7, (.bslice 5 1 [(.s (.pv (.int .u8 0)))] 1 [(0, 1, (.k (.c (.s (.pv (.int .u8 0))))))]), none, []⟩,
    ⟨(some 8), 8, (.b2s (.t 7)), none, [1]⟩,
    ⟨(some 9), 9, (.bin false .add (.t 6) (.t 8)), none, [0, 2]⟩,
    ⟨(some 0), 0, (.mv (.t 9)), none, [3, 0, 1, 2, 3]⟩])))))
  (.seq (.reg [⟨(some 10), 10, (.mv (.t 0)), none, []⟩,
    ⟨(some 2), 2, (.mv (.t 10)), none, [0, 0]⟩])
  .ret)))
theorem fn56 : FnIs Try.prog 56 ac56 [(.t 2)] 11 := ⟨Try.f56, Try.func56, by kernel_rfl, by kernel_rfl, by kernel_rfl⟩
/- lockkeeper/page.Right -/
def ac59 : ACode := (.seq (.reg [⟨(some 1), 1, (.box 27 3 (.t 0)), none, []⟩,
    ⟨(some 2), 2, (.mv (.k (.c (.s (.pv (.bool false)))))), none, []⟩])
  (.seq (.reg [⟨(some 3), 3, (.fld 0 (.t 1)), none, []⟩,
    ⟨(some 4), 4, (.load false 1 (.t 3)), none, [0]⟩,
    ⟨(some 5), 5, (.bin false .geq (.t 4) (.k (.c (.s (.pv (.int .i64 1)))))), none, [1]⟩,
    ⟨(some 6), 6, (.mv (.t 5)), none, [2]⟩,
    ⟨(some 7), 7, (.fld 0 (.t 1)), (some (6, true)), [3]⟩,
    ⟨(some 8), 8, (.load false 1 (.t 7)), (some (6, true)), [4, 3]⟩,
    ⟨(some 9), 9, (.bin false .leq (.t 8) (.k (.c (.s (.pv (.int .i64 16)))))), (some (6, true)), [5, 3]⟩,
    ⟨(some 10), 10, (.pick (.t 6) (.t 9) (.k (.c (.s (.pv (.bool false)))))), none, [3, 6]⟩,
    ⟨(some 11), 11, (.mv (.t 10)), none, [7, 3]⟩,
    ⟨(some 12), 12, (.fld 1 (.t 1)), (some (11, true)), [8]⟩,
    ⟨(some 13), 13, (.load false 1 (.t 12)), (some (11, true)), [9, 8]⟩,
    ⟨(some 14), 14, (.bin false .geq (.t 13) (.k (.c (.s (.pv (.int .i64 1)))))), (some (11, true)), [10, 8]⟩,
    ⟨(some 15), 15, (.pick (.t 11) (.t 14) (.k (.c (.s (.pv (.bool false)))))), none, [8, 11]⟩,
    ⟨(some 16), 16, (.mv (.t 15)), none, [12, 8]⟩,
    ⟨(some 17), 17, (.fld 1 (.t 1)), (some (16, true)), [13]⟩,
    ⟨(some 18), 18, (.load false 1 (.t 17)), (some (16, true)), [14, 13]⟩,
    ⟨(some 19), 19, (.bin false .leq (.t 18) (.k (.c (.s (.pv (.int .i64 2147483647)))))), (some (16, true)), [15, 13]⟩,
    ⟨(some 20), 20, (.pick (.t 16) (.t 19) (.k (.c (.s (.pv (.bool false)))))), none, [13, 16]⟩,
    ⟨(some 21), 21, (.mv (.t 20)), none, [17, 13]⟩,
    ⟨(some 22), 22, (.fld 2 (.t 1)), (some (21, true)), [18]⟩,
    ⟨(some 23), 23, (.load false 1 (.t 22)), (some (21, true)), [19, 18]⟩,
    ⟨(some 24), 24, (.slen (.t 23)), (some (21, true)), [20, 18]⟩,
    ⟨(some 25), 25, (.bin false .leq (.t 24) (.k (.c (.s (.pv (.int .i64 16)))))), (some (21, true)), [21, 18]⟩,
    ⟨(some 26), 26, (.pick (.t 21) (.t 25) (.k (.c (.s (.pv (.bool false)))))), none, [18, 22]⟩,
    ⟨(some 2), 2, (.mv (.t 26)), none, [23, 18, 0, 1, 2, 3, 4, 5, 6, 7, 8, 9, 10, 11, 12, 13, 14, 15, 16, 17, 18, 19, 20, 21, 22, 23]⟩])
  .ret))
theorem fn59 : FnIs Try.prog 59 ac59 [(.t 2)] 27 := ⟨Try.f59, Try.func59, by kernel_rfl, by kernel_rfl, by kernel_rfl⟩
/- lockkeeper/journal.write -/
def ac63 : ACode := (.seq (.reg [⟨(some 4), 4, (.mk 71 3 [[(.s (.pv (.bool false))), (.s (.pv (.int .i64 0))), (.s (.pv (.string ⟨#[]⟩)))]]), none, []⟩])
  (.seq (.reg [⟨(some 5), 5, (.mv (.t 0)), none, []⟩,
    ⟨(some 6), 6, (.mv (.t 1)), none, []⟩,
    ⟨(some 7), 7, (.build [(.s (.pv (.int .i64 0))), (.s (.pv (.string ⟨#[]⟩)))] [(0, 1, (.t 5)), (1, 1, (.t 6))]), none, [0, 1]⟩,
    ⟨(some 8), 8, (.build [(.s (.pv (.bool false))), (.s (.pv (.int .i64 0))), (.s (.pv (.string ⟨#[]⟩)))] [(1, 2, (.t 7))]), none, [2]⟩,
    ⟨none, 13, (.store 3 (.t 4) (.t 8)), none, [3, 0, 1, 2, 3]⟩])
  .ret))
theorem fn63 : FnIs Try.prog 63 ac63 [(.cell 4 true 3)] 9 := ⟨Try.f63, Try.func63, by kernel_rfl, by kernel_rfl, by kernel_rfl⟩
/- lockkeeper/journal.sync -/
def ac64 : ACode := (.seq (.reg [⟨(some 0), 0, (.mk 71 3 [[(.s (.pv (.bool false))), (.s (.pv (.int .i64 0))), (.s (.pv (.string ⟨#[]⟩)))]]), none, []⟩])
  (.seq (.reg [⟨(some 1), 1, (.build [(.s (.pv (.bool false))), (.s (.pv (.int .i64 0))), (.s (.pv (.string ⟨#[]⟩)))] [(0, 1, (.k (.c (.s (.pv (.bool true))))))]), none, []⟩,
    ⟨none, 3, (.store 3 (.t 0) (.t 1)), none, [0, 0]⟩])
  .ret))
theorem fn64 : FnIs Try.prog 64 ac64 [(.cell 0 true 3)] 2 := ⟨Try.f64, Try.func64, by kernel_rfl, by kernel_rfl, by kernel_rfl⟩
/- lockkeeper/journal.head -/
def ac65 : ACode := (.seq (.reg [⟨(some 2), 2, (.mv (.k (.c (.s (.pv (.string ⟨#[]⟩)))))), none, []⟩])
  (.seq (.draw [⟨(some 3), 3, (.mv (.t 0)), none, []⟩,
    ⟨(some 4), 4, (.conv .u8 (.t 3)), none, [0]⟩,
    ⟨(some 5), 5, (.bslice 5 1 [(.s (.pv (.int .u8 0)))] 2 [(0, 1, (.k (.c (.s (.pv (.int .u8 74)))))), (1, 1, (.t 4))]), none, [1]⟩,
    ⟨(some 6), 6, (.b2s (.t 5)), none, [2]⟩,
    ⟨(some 7), 7, (.ssub (.k (.c (.s (.pv (.string ⟨#[0, 0, 0, 0, 0, 0, 0, 0, 0, 0, 0, 0, 0, 0, 0, 0]⟩))))) (some (.k (.c (.s (.pv (.int .i64 2)))))) none), none, []⟩,
    ⟨(some 8), 8, (.bin false .add (.t 6) (.t 7)), none, [3, 4]⟩,
    ⟨(some 2), 2, (.mv (.t 8)), none, [5, 0, 1, 2, 3, 4, 5]⟩])
  .ret))
theorem fn65 : FnIs Try.prog 65 ac65 [(.t 2)] 9 := ⟨Try.f65, Try.func65, by kernel_rfl, by kernel_rfl, by kernel_rfl⟩
/- lockkeeper/journal.headed -/
def ac72 : ACode := (.seq (.reg [⟨(some 2), 2, (.mv (.k (.c (.s (.pv (.int .i64 0)))))), none, []⟩,
    ⟨(some 3), 3, (.mv (.k (.c (.s (.pv (.bool false)))))), none, [0]⟩])
  (.seq (.reg [⟨(some 5), 5, (.mv (.t 0)), none, []⟩,
    ⟨(some 6), 6, (.sidx (.t 5) (.k (.c (.s (.pv (.int .i64 1)))))), none, [0]⟩,
    ⟨(some 7), 7, (.conv .i64 (.t 6)), none, [1]⟩,
    ⟨(some 4), 4, (.mv (.t 7)), none, [2, 0, 1, 2]⟩])
  (.seq (.seq (.reg [⟨(some 8), 8, (.mv (.t 4)), none, []⟩,
    ⟨(some 9), 9, (.call 49 [(.t 8)]), none, [0]⟩,
    ⟨(some 10), 10, (.not (.t 9)), none, [1]⟩,
    ⟨(some 11), 11, (.mv (.t 10)), none, [2, 1]⟩,
    ⟨(some 12), 12, (.mv (.t 0)), (some (11, false)), [3]⟩,
    ⟨(some 13), 13, (.mv (.t 4)), (some (11, false)), [3]⟩,
    ⟨(some 14), 14, (.call 65 [(.t 13)]), (some (11, false)), [5, 3, 3]⟩,
    ⟨(some 15), 15, (.bin false .neq (.t 12) (.t 14)), (some (11, false)), [4, 6, 3]⟩,
    ⟨(some 16), 16, (.pick (.t 11) (.k (.c (.s (.pv (.bool true))))) (.t 15)), none, [3, 7]⟩])
  (.cond (.t 16) (.seq (.reg [⟨(some 2), 2, (.mv (.k (.c (.s (.pv (.int .i64 0)))))), none, []⟩,
    ⟨(some 3), 3, (.mv (.k (.c (.s (.pv (.bool false)))))), none, [0, 0]⟩])
  .ret) .skip))
  (.seq (.reg [⟨(some 17), 17, (.mv (.t 4)), none, []⟩,
    ⟨(some 2), 2, (.mv (.t 17)), none, [0, 0]⟩,
    ⟨(some 3), 3, (.mv (.k (.c (.s (.pv (.bool true)))))), none, [1, 0, 1]⟩])
  .ret))))
theorem fn72 : FnIs Try.prog 72 ac72 [(.t 2), (.t 3)] 18 := ⟨Try.f72, Try.func72, by kernel_rfl, by kernel_rfl, by kernel_rfl⟩
/- lockkeeper/disk.fits -/
def ac73 : ACode := (.seq (.reg [⟨(some 2), 2, (.box 25 2 (.t 0)), none, []⟩,
    ⟨(some 3), 3, (.box 60 2 (.t 1)), none, []⟩,
    ⟨(some 4), 4, (.mv (.k (.c (.s (.pv (.bool false)))))), none, []⟩])
  (.seq (.reg [⟨(some 5), 5, (.load true 2 (.t 2)), none, []⟩,
    ⟨(some 6), 6, (.fld 0 (.t 3)), none, []⟩,
    ⟨(some 7), 7, (.load false 1 (.t 6)), none, [1]⟩,
    ⟨(some 8), 8, (.call 76 [(.t 5), (.t 7)]), none, [0, 2]⟩,
    ⟨(some 9), 9, (.mv (.t 8)), none, [3, 3]⟩,
    ⟨(some 10), 10, (.fld 1 (.t 3)), (some (9, true)), [4]⟩,
    ⟨(some 11), 11, (.load false 1 (.t 10)), (some (9, true)), [5, 4]⟩,
    ⟨(some 12), 12, (.slen (.t 11)), (some (9, true)), [6, 4]⟩,
    ⟨(some 13), 13, (.bin false .eql (.t 12) (.k (.c (.s (.pv (.int .i64 16)))))), (some (9, true)), [7, 4]⟩,
    ⟨(some 14), 14, (.pick (.t 9) (.t 13) (.k (.c (.s (.pv (.bool false)))))), none, [4, 8]⟩,
    ⟨(some 4), 4, (.mv (.t 14)), none, [9, 4, 0, 1, 2, 3, 4, 5, 6, 7, 8, 9]⟩])
  .ret))
theorem fn73 : FnIs Try.prog 73 ac73 [(.t 4)] 15 := ⟨Try.f73, Try.func73, by kernel_rfl, by kernel_rfl, by kernel_rfl⟩
/- slices.Clone[[]string,string] -/
def ac74 : ACode := (.seq (.reg [⟨(some 2), 2, (.mv (.k (.c .zc))), none, []⟩])
  (.seq (.seq (.reg [⟨(some 3), 3, (.mv (.t 0)), none, []⟩,
    ⟨(some 4), 4, (.isnil (.t 3)), none, [0]⟩])
  (.cond (.t 4) (.seq (.reg [⟨(some 2), 2, (.mv (.k (.c .zc))), none, []⟩])
  .ret) .skip))
  (.seq (.reg [⟨(some 5), 5, (.bslice 9 1 [(.s (.pv (.string ⟨#[]⟩)))] 0 []), none, []⟩,
    ⟨(some 6), 6, (.mv (.t 0)), none, []⟩,
    ⟨(some 7), 7, (.app 9 1 16 (.t 5) (.t 6)), none, [0, 1]⟩,
    ⟨(some 2), 2, (.mv (.t 7)), none, [2, 2, 0, 1, 2]⟩])
  .ret)))
theorem fn74 : FnIs Try.prog 74 ac74 [(.t 2)] 8 := ⟨Try.f74, Try.func74, by kernel_rfl, by kernel_rfl, by kernel_rfl⟩
/- slices.Clone[[]lockkeeper/api.Write,lockkeeper/api.Write] -/
def ac75 : ACode := (.seq (.reg [⟨(some 2), 2, (.mv (.k (.c .zc))), none, []⟩])
  (.seq (.seq (.reg [⟨(some 3), 3, (.mv (.t 0)), none, []⟩,
    ⟨(some 4), 4, (.isnil (.t 3)), none, [0]⟩])
  (.cond (.t 4) (.seq (.reg [⟨(some 2), 2, (.mv (.k (.c .zc))), none, []⟩])
  .ret) .skip))
  (.seq (.reg [⟨(some 5), 5, (.bslice 60 2 [(.s (.pv (.int .i64 0))), (.s (.pv (.string ⟨#[]⟩)))] 0 []), none, []⟩,
    ⟨(some 6), 6, (.mv (.t 0)), none, []⟩,
    ⟨(some 7), 7, (.app 60 2 24 (.t 5) (.t 6)), none, [0, 1]⟩,
    ⟨(some 2), 2, (.mv (.t 7)), none, [2, 2, 0, 1, 2]⟩])
  .ret)))
theorem fn75 : FnIs Try.prog 75 ac75 [(.t 2)] 8 := ⟨Try.f75, Try.func75, by kernel_rfl, by kernel_rfl, by kernel_rfl⟩
/- lockkeeper/disk.has -/
def ac76 : ACode := (.seq (.reg [⟨(some 2), 2, (.box 25 2 (.t 0)), none, []⟩,
    ⟨(some 4), 4, (.mv (.k (.c (.s (.pv (.bool false)))))), none, []⟩])
  (.seq (.reg [⟨(some 5), 5, (.mv (.t 1)), none, []⟩,
    ⟨(some 6), 6, (.bin false .geq (.t 5) (.k (.c (.s (.pv (.int .i64 0)))))), none, [0]⟩,
    ⟨(some 7), 7, (.mv (.t 6)), none, [1]⟩,
    ⟨(some 8), 8, (.mv (.t 1)), (some (7, true)), [2]⟩,
    ⟨(some 9), 9, (.fld 0 (.t 2)), (some (7, true)), [2]⟩,
    ⟨(some 10), 10, (.load false 1 (.t 9)), (some (7, true)), [4, 2]⟩,
    ⟨(some 11), 11, (.len (.t 10)), (some (7, true)), [5, 2]⟩,
    ⟨(some 12), 12, (.bin false .lss (.t 8) (.t 11)), (some (7, true)), [3, 6, 2]⟩,
    ⟨(some 13), 13, (.pick (.t 7) (.t 12) (.k (.c (.s (.pv (.bool false)))))), none, [2, 7]⟩,
    ⟨(some 4), 4, (.mv (.t 13)), none, [8, 2, 0, 1, 2, 3, 4, 5, 6, 7, 8]⟩])
  .ret))
theorem fn76 : FnIs Try.prog 76 ac76 [(.t 4)] 14 := ⟨Try.f76, Try.func76, by kernel_rfl, by kernel_rfl, by kernel_rfl⟩

end Go.Proofs.Ytlloeinlfhnegaa
