import Derived.Test.YtcbfhpnmhhnjpaaGreatZ10
set_option linter.unusedVariables false
set_option linter.unusedSimpArgs false
namespace Go.Proofs.YtcbfhpnmhhnjpaaGreat
set_option maxRecDepth 100000
def ac23 : ACode := (.seq (.reg [⟨some 3,3,.box 38 2 (.t 0),none,[]⟩,
⟨some 6,6,.mk 38 2 [[.zc,.zc]],none,[]⟩])
(.seq (.seq (.reg [⟨some 9,9,.mv (.t 1),none,[]⟩,
⟨some 10,10,.mv (.t 2),none,[]⟩,
⟨some 11,11,.mv (.t 1),none,[]⟩,
⟨some 12,12,.len (.t 11),none,[2]⟩,
⟨some 13,13,.mm false (.t 10) (.t 12),none,[1,3]⟩,
⟨some 14,14,.mm true (.k (.c (.s (.pv (.int .i64 0))))) (.t 13),none,[4]⟩,
⟨some 15,15,.sub 3 (.t 9) none (some (.t 14)),none,[0,5]⟩,
⟨some 16,16,.len (.t 15),none,[6]⟩,
⟨some 17,17,.mv (.k (.c (.s (.pv (.int .i64 0))))),none,[]⟩])
(.block 0 (.loop (.seq (.reg [⟨some 18,18,.bin false .lss (.t 17) (.t 16),none,[]⟩])
(.seq (.cond (.t 18) .skip (.exit 0))
(.seq (.block 1 (.seq (.reg [⟨some 19,19,.idx 3 (.t 15) (.t 17),none,[]⟩,
⟨some 20,20,.load true 3 (.t 19),none,[0]⟩,
⟨some 8,8,.mk 122 3 [[.s (.pv (.bool false)),.s (.pv (.int .i64 0)),.s (.pv (.string ⟨#[]⟩))]],none,[]⟩,
⟨none,37,.store 3 (.t 8) (.t 20),none,[2,1,0,1,2]⟩])
(.seq (.reg [⟨some 21,21,.fld 0 (.t 8),none,[]⟩,
⟨some 22,22,.load false 1 (.t 21),none,[0]⟩])
(.cond (.t 22) (.reg [⟨some 23,23,.load true 2 (.t 3),none,[]⟩,
⟨some 24,24,.call 49 [.t 23],none,[0]⟩,
⟨none,36,.store 2 (.t 3) (.t 24),none,[1,1,0,1]⟩]) (.reg [⟨some 26,26,.load true 2 (.t 3),none,[]⟩,
⟨some 27,27,.fld 1 (.t 8),none,[]⟩,
⟨some 28,28,.load true 2 (.t 27),none,[1]⟩,
⟨some 29,29,.call 50 [.t 26,.t 28],none,[0,2]⟩,
⟨some 25,25,.mv (.t 29),none,[3]⟩,
⟨some 30,30,.ext 0 (.t 25),none,[4]⟩,
⟨some 31,31,.ext 1 (.t 25),none,[4]⟩,
⟨none,41,.store 2 (.t 3) (.t 30),none,[5,3,0,1,2,3,4,5]⟩])))))
(.reg [⟨some 32,32,.bin false .add (.t 17) (.k (.c (.s (.pv (.int .i64 1))))),none,[]⟩,
⟨some 17,17,.mv (.t 32),none,[0]⟩])))))))
(.seq (.reg [⟨some 33,33,.load true 2 (.t 3),none,[]⟩,
⟨none,35,.store 2 (.t 6) (.t 33),none,[0,0]⟩])
.ret)))
theorem fn23 : FnIs Tryz.prog 23 ac23 [.cell 6 true 2] 34 := ⟨Tryz.f23,Tryz.func23,by kernel_rfl,by kernel_rfl,by kernel_rfl⟩
def ac24 : ACode := (.seq (.reg [⟨some 2,2,.box 38 2 (.t 0),none,[]⟩,
⟨some 4,4,.mk 42 3 [[.s (.pv (.int .i64 0)),.s (.pv (.int .i64 0)),.s (.pv (.string ⟨#[]⟩))]],none,[]⟩,
⟨some 5,5,.mv (.k (.c (.s (.pv (.int .i64 0))))),none,[]⟩])
(.seq (.seq (.reg [⟨some 8,8,.load true 2 (.t 2),none,[]⟩,
⟨some 9,9,.call 27 [.t 8],none,[0]⟩,
⟨some 10,10,.not (.t 9),none,[1]⟩,
⟨some 11,11,.mv (.t 10),none,[2,1]⟩,
⟨some 12,12,.mv (.t 1),(some (11,false)),[3]⟩,
⟨some 13,13,.bin false .lss (.t 12) (.k (.c (.s (.pv (.int .i64 1))))),(some (11,false)),[4,3]⟩,
⟨some 14,14,.pick (.t 11) (.k (.c (.s (.pv (.bool true))))) (.t 13),none,[3,5]⟩,
⟨some 15,15,.mv (.t 14),none,[6,3]⟩,
⟨some 16,16,.mv (.t 1),(some (15,false)),[7]⟩,
⟨some 17,17,.bin false .gtr (.t 16) (.k (.c (.s (.pv (.int .i64 16))))),(some (15,false)),[8,7]⟩,
⟨some 18,18,.pick (.t 15) (.k (.c (.s (.pv (.bool true))))) (.t 17),none,[7,9]⟩])
(.cond (.t 18) (.seq (.reg [⟨some 19,19,.build [.s (.pv (.int .i64 0)),.s (.pv (.int .i64 0)),.s (.pv (.string ⟨#[]⟩))] [],none,[]⟩,
⟨none,38,.store 3 (.t 4) (.t 19),none,[0,0]⟩,
⟨some 5,5,.mv (.k (.c (.s (.pv (.int .i64 1))))),none,[1,0,1]⟩])
.ret) .skip))
(.seq (.reg [⟨some 21,21,.load true 2 (.t 2),none,[]⟩,
⟨some 22,22,.mv (.t 1),none,[]⟩,
⟨some 23,23,.call 52 [.t 21,.t 22],none,[0,1]⟩,
⟨some 24,24,.call 51 [.t 23],none,[2,2]⟩,
⟨some 20,20,.mv (.t 24),none,[3]⟩,
⟨some 25,25,.ext 0 (.t 20),none,[4]⟩,
⟨some 26,26,.ext 1 (.t 20),none,[4]⟩,
⟨some 6,6,.mk 42 3 [[.s (.pv (.int .i64 0)),.s (.pv (.int .i64 0)),.s (.pv (.string ⟨#[]⟩))]],none,[]⟩,
⟨none,45,.store 3 (.t 6) (.t 25),none,[7,5,3,0,1,2,3,4,5,7]⟩,
⟨some 7,7,.mv (.t 26),none,[6,8,0,1,2,3,4,5,6,7,8]⟩])
(.seq (.seq (.reg [⟨some 27,27,.mv (.t 7),none,[]⟩,
⟨some 28,28,.bin false .neq (.t 27) (.k (.c (.s (.pv (.int .i64 0))))),none,[0]⟩])
(.cond (.t 28) (.seq (.reg [⟨some 29,29,.build [.s (.pv (.int .i64 0)),.s (.pv (.int .i64 0)),.s (.pv (.string ⟨#[]⟩))] [],none,[]⟩,
⟨some 30,30,.mv (.t 7),none,[]⟩,
⟨none,39,.store 3 (.t 4) (.t 29),none,[0,0]⟩,
⟨some 5,5,.mv (.t 30),none,[1,2,0,1,2]⟩])
.ret) .skip))
(.seq (.seq (.reg [⟨some 31,31,.fld 0 (.t 6),none,[]⟩,
⟨some 32,32,.load false 1 (.t 31),none,[0]⟩,
⟨some 33,33,.mv (.t 1),none,[]⟩,
⟨some 34,34,.bin false .neq (.t 32) (.t 33),none,[1,2]⟩])
(.cond (.t 34) (.seq (.reg [⟨some 35,35,.build [.s (.pv (.int .i64 0)),.s (.pv (.int .i64 0)),.s (.pv (.string ⟨#[]⟩))] [],none,[]⟩,
⟨none,38,.store 3 (.t 4) (.t 35),none,[0,0]⟩,
⟨some 5,5,.mv (.k (.c (.s (.pv (.int .i64 9))))),none,[1,0,1]⟩])
.ret) .skip))
(.seq (.reg [⟨some 36,36,.load true 3 (.t 6),none,[]⟩,
⟨none,38,.store 3 (.t 4) (.t 36),none,[0,0]⟩,
⟨some 5,5,.mv (.k (.c (.s (.pv (.int .i64 0))))),none,[1,0,1]⟩])
.ret))))))
theorem fn24 : FnIs Tryz.prog 24 ac24 [.cell 4 true 3,.t 5] 37 := ⟨Tryz.f24,Tryz.func24,by kernel_rfl,by kernel_rfl,by kernel_rfl⟩
def ac27 : ACode := (.seq (.reg [⟨some 1,1,.box 38 2 (.t 0),none,[]⟩,
⟨some 2,2,.mv (.k (.c (.s (.pv (.bool false))))),none,[]⟩])
(.seq (.reg [⟨some 3,3,.load true 2 (.t 1),none,[]⟩,
⟨some 4,4,.call 56 [.t 3],none,[0]⟩,
⟨some 5,5,.mv (.t 4),none,[1,1]⟩,
⟨some 6,6,.fld 0 (.t 1),(some (5,true)),[2]⟩,
⟨some 7,7,.load false 1 (.t 6),(some (5,true)),[3,2]⟩,
⟨some 8,8,.len (.t 7),(some (5,true)),[4,2]⟩,
⟨some 9,9,.bin false .gtr (.t 8) (.k (.c (.s (.pv (.int .i64 34))))),(some (5,true)),[5,2]⟩,
⟨some 10,10,.pick (.t 5) (.t 9) (.k (.c (.s (.pv (.bool false))))),none,[2,6]⟩,
⟨some 2,2,.mv (.t 10),none,[7,2,0,1,2,3,4,5,6,7]⟩])
.ret))
theorem fn27 : FnIs Tryz.prog 27 ac27 [.t 2] 11 := ⟨Tryz.f27,Tryz.func27,by kernel_rfl,by kernel_rfl,by kernel_rfl⟩
def ac28 : ACode := (.seq (.reg [⟨some 3,3,.box 38 2 (.t 0),none,[]⟩,
⟨some 6,6,.mk 38 2 [[.zc,.zc]],none,[]⟩])
(.seq (.seq (.reg [⟨some 7,7,.mv (.k (.c (.s (.pv (.int .i64 0))))),none,[]⟩])
(.block 0 (.loop (.seq (.seq (.reg [⟨some 10,10,.mv (.t 7),none,[]⟩,
⟨some 11,11,.mv (.t 1),none,[]⟩,
⟨some 12,12,.len (.t 11),none,[1]⟩,
⟨some 13,13,.bin false .lss (.t 10) (.t 12),none,[0,2]⟩,
⟨some 14,14,.mv (.t 13),none,[3]⟩,
⟨some 15,15,.mv (.t 7),(some (14,true)),[4]⟩,
⟨some 16,16,.mv (.t 2),(some (14,true)),[4]⟩,
⟨some 17,17,.bin false .lss (.t 15) (.t 16),(some (14,true)),[5,6,4]⟩,
⟨some 18,18,.pick (.t 14) (.t 17) (.k (.c (.s (.pv (.bool false))))),none,[4,7]⟩])
(.cond (.t 18) .skip (.exit 0)))
(.seq (.block 1 (.seq (.reg [⟨some 21,21,.mv (.t 1),none,[]⟩,
⟨some 22,22,.mv (.t 7),none,[]⟩,
⟨some 23,23,.idx 3 (.t 21) (.t 22),none,[0,1]⟩,
⟨some 24,24,.fld 1 (.t 23),none,[2]⟩,
⟨some 25,25,.load true 2 (.t 24),none,[3]⟩,
⟨some 8,8,.mk 120 2 [[.s (.pv (.int .i64 0)),.s (.pv (.string ⟨#[]⟩))]],none,[]⟩,
⟨none,80,.store 2 (.t 8) (.t 25),none,[5,4,0,1,2,3,4,5]⟩])
(.seq (.seq (.reg [⟨some 26,26,.mv (.t 1),none,[]⟩,
⟨some 27,27,.mv (.t 7),none,[]⟩,
⟨some 28,28,.idx 3 (.t 26) (.t 27),none,[0,1]⟩,
⟨some 29,29,.fld 0 (.t 28),none,[2]⟩,
⟨some 30,30,.load false 1 (.t 29),none,[3]⟩])
(.cond (.t 30) (.seq (.seq (.reg [⟨some 31,31,.load true 2 (.t 3),none,[]⟩,
⟨some 32,32,.call 56 [.t 31],none,[0]⟩])
(.cond (.t 32) (.reg [⟨some 33,33,.load true 2 (.t 3),none,[]⟩,
⟨some 34,34,.call 57 [.t 33],none,[0]⟩,
⟨none,76,.store 2 (.t 3) (.t 34),none,[1,1,0,1]⟩]) .skip))
(.exit 1)) .skip))
(.seq (.reg [⟨some 35,35,.load true 2 (.t 3),none,[]⟩,
⟨some 36,36,.call 56 [.t 35],none,[0]⟩,
⟨some 37,37,.mv (.t 36),none,[1,1]⟩,
⟨some 38,38,.fld 0 (.t 8),(some (37,true)),[2]⟩,
⟨some 39,39,.load false 1 (.t 38),(some (37,true)),[3,2]⟩,
⟨some 40,40,.bin false .geq (.t 39) (.k (.c (.s (.pv (.int .i64 0))))),(some (37,true)),[4,2]⟩,
⟨some 41,41,.pick (.t 37) (.t 40) (.k (.c (.s (.pv (.bool false))))),none,[2,5]⟩,
⟨some 42,42,.mv (.t 41),none,[6,2]⟩,
⟨some 43,43,.fld 0 (.t 8),(some (42,true)),[7]⟩,
⟨some 44,44,.load false 1 (.t 43),(some (42,true)),[8,7]⟩,
⟨some 45,45,.fld 0 (.t 3),(some (42,true)),[7]⟩,
⟨some 46,46,.load false 1 (.t 45),(some (42,true)),[10,7]⟩,
⟨some 47,47,.len (.t 46),(some (42,true)),[11,7]⟩,
⟨some 48,48,.bin false .lss (.t 44) (.t 47),(some (42,true)),[9,12,7]⟩,
⟨some 49,49,.pick (.t 42) (.t 48) (.k (.c (.s (.pv (.bool false))))),none,[7,13]⟩,
⟨some 50,50,.mv (.t 49),none,[14,7]⟩,
⟨some 51,51,.fld 1 (.t 8),(some (50,true)),[15]⟩,
⟨some 52,52,.load false 1 (.t 51),(some (50,true)),[16,15]⟩,
⟨some 53,53,.slen (.t 52),(some (50,true)),[17,15]⟩,
⟨some 54,54,.bin false .eql (.t 53) (.k (.c (.s (.pv (.int .i64 16))))),(some (50,true)),[18,15]⟩,
⟨some 55,55,.pick (.t 50) (.t 54) (.k (.c (.s (.pv (.bool false))))),none,[15,19]⟩,
⟨some 56,56,.mv (.t 55),none,[20,15]⟩,
⟨some 57,57,.fld 1 (.t 3),(some (56,true)),[21]⟩,
⟨some 58,58,.load false 1 (.t 57),(some (56,true)),[22,21]⟩,
⟨some 59,59,.len (.t 58),(some (56,true)),[23,21]⟩,
⟨some 60,60,.bin false .lss (.t 59) (.k (.c (.s (.pv (.int .i64 200))))),(some (56,true)),[24,21]⟩,
⟨some 61,61,.pick (.t 56) (.t 60) (.k (.c (.s (.pv (.bool false))))),none,[21,25]⟩])
(.cond (.t 61) (.seq (.reg [⟨some 9,9,.mv (.k (.c .zc)),none,[]⟩])
(.seq (.reg [⟨some 62,62,.mv (.t 9),none,[]⟩,
⟨some 63,63,.fld 1 (.t 3),none,[]⟩,
⟨some 64,64,.load false 1 (.t 63),none,[1]⟩,
⟨some 65,65,.app 120 2 24 (.t 62) (.t 64),none,[0,2]⟩,
⟨some 9,9,.mv (.t 65),none,[3,3,0,1,2,3]⟩])
(.draw [⟨some 66,66,.fld 0 (.t 3),none,[]⟩,
⟨some 67,67,.load false 1 (.t 66),none,[0]⟩,
⟨some 68,68,.mv (.t 9),none,[]⟩,
⟨some 69,69,.load true 2 (.t 8),none,[]⟩,
⟨some 70,70,.bslice 120 2 [.s (.pv (.int .i64 0)),.s (.pv (.string ⟨#[]⟩))] 1 [(0,2,(.t 69))],none,[3]⟩,
⟨some 71,71,.app 120 2 24 (.t 68) (.t 70),none,[2,4]⟩,
⟨some 72,72,.build [.zc,.zc] [(0,1,(.t 67)),(1,1,(.t 71))],none,[1,5]⟩,
⟨none,81,.store 2 (.t 3) (.t 72),none,[6,5,0,1,2,3,4,5,6]⟩]))) .skip)))))
(.reg [⟨some 19,19,.mv (.t 7),none,[]⟩,
⟨some 20,20,.bin false .add (.t 19) (.k (.c (.s (.pv (.int .i64 1))))),none,[0]⟩,
⟨some 7,7,.mv (.t 20),none,[1,0,1]⟩]))))))
(.seq (.reg [⟨some 73,73,.load true 2 (.t 3),none,[]⟩,
⟨none,75,.store 2 (.t 6) (.t 73),none,[0,0]⟩])
.ret)))
theorem fn28 : FnIs Tryz.prog 28 ac28 [.cell 6 true 2] 74 := ⟨Tryz.f28,Tryz.func28,by kernel_rfl,by kernel_rfl,by kernel_rfl⟩
def ac39 : ACode := (.seq (.reg [⟨some 2,2,.mk 38 2 [[.zc,.zc]],none,[]⟩,
⟨some 3,3,.mv (.k (.c (.s (.pv (.int .i64 0))))),none,[]⟩])
(.seq (.seq (.reg [⟨some 5,5,.mv (.t 0),none,[]⟩,
⟨some 6,6,.bin false .lss (.t 5) (.k (.c (.s (.pv (.int .i64 1))))),none,[0]⟩,
⟨some 7,7,.mv (.t 6),none,[1]⟩,
⟨some 8,8,.mv (.t 0),(some (7,false)),[2]⟩,
⟨some 9,9,.bin false .gtr (.t 8) (.k (.c (.s (.pv (.int .i64 64))))),(some (7,false)),[3,2]⟩,
⟨some 10,10,.pick (.t 7) (.k (.c (.s (.pv (.bool true))))) (.t 9),none,[2,4]⟩])
(.cond (.t 10) (.seq (.reg [⟨some 11,11,.build [.zc,.zc] [],none,[]⟩,
⟨none,19,.store 2 (.t 2) (.t 11),none,[0,0]⟩,
⟨some 3,3,.mv (.k (.c (.s (.pv (.int .i64 1))))),none,[1,0,1]⟩])
.ret) .skip))
(.seq (.reg [⟨some 12,12,.call 67 [.k (.c (.s (.pv (.string ⟨#[0]⟩)))),.k (.c (.s (.pv (.int .i64 16))))],none,[]⟩,
⟨some 4,4,.mv (.t 12),none,[0,0,0]⟩])
(.seq (.reg [⟨some 13,13,.mv (.t 4),none,[]⟩,
⟨some 14,14,.bslice 9 1 [.s (.pv (.string ⟨#[]⟩))] 1 [(0,1,(.t 13))],none,[0]⟩,
⟨some 15,15,.mv (.t 0),none,[]⟩,
⟨some 16,16,.call 68 [.t 14,.t 15],none,[1,2]⟩,
⟨some 17,17,.build [.zc,.zc] [(0,1,(.t 16))],none,[3]⟩,
⟨none,23,.store 2 (.t 2) (.t 17),none,[4,3,0,1,2,3,4]⟩,
⟨some 3,3,.mv (.k (.c (.s (.pv (.int .i64 0))))),none,[5,0,1,2,3,4,5]⟩])
.ret))))
theorem fn39 : FnIs Tryz.prog 39 ac39 [.cell 2 true 2,.t 3] 18 := ⟨Tryz.f39,Tryz.func39,by kernel_rfl,by kernel_rfl,by kernel_rfl⟩
def ac40 : ACode := (.seq (.reg [⟨some 2,2,.box 38 2 (.t 0),none,[]⟩,
⟨some 3,3,.box 42 3 (.t 1),none,[]⟩,
⟨some 4,4,.mv (.k (.c .zc)),none,[]⟩])
(.seq (.seq (.reg [⟨some 5,5,.load true 2 (.t 2),none,[]⟩,
⟨some 6,6,.call 27 [.t 5],none,[0]⟩,
⟨some 7,7,.not (.t 6),none,[1]⟩,
⟨some 8,8,.mv (.t 7),none,[2,1]⟩,
⟨some 9,9,.fld 0 (.t 3),(some (8,false)),[3]⟩,
⟨some 10,10,.load false 1 (.t 9),(some (8,false)),[4,3]⟩,
⟨some 11,11,.bin false .lss (.t 10) (.k (.c (.s (.pv (.int .i64 1))))),(some (8,false)),[5,3]⟩,
⟨some 12,12,.pick (.t 8) (.k (.c (.s (.pv (.bool true))))) (.t 11),none,[3,6]⟩,
⟨some 13,13,.mv (.t 12),none,[7,3]⟩,
⟨some 14,14,.fld 0 (.t 3),(some (13,false)),[8]⟩,
⟨some 15,15,.load false 1 (.t 14),(some (13,false)),[9,8]⟩,
⟨some 16,16,.bin false .gtr (.t 15) (.k (.c (.s (.pv (.int .i64 16))))),(some (13,false)),[10,8]⟩,
⟨some 17,17,.pick (.t 13) (.k (.c (.s (.pv (.bool true))))) (.t 16),none,[8,11]⟩])
(.cond (.t 17) (.seq (.reg [⟨some 4,4,.mv (.k (.c .zc)),none,[]⟩])
.ret) .skip))
(.seq (.seq (.reg [⟨some 18,18,.fld 1 (.t 3),none,[]⟩,
⟨some 19,19,.load false 1 (.t 18),none,[0]⟩,
⟨some 20,20,.bin false .eql (.t 19) (.k (.c (.s (.pv (.int .i64 0))))),none,[1]⟩,
⟨some 21,21,.mv (.t 20),none,[2]⟩,
⟨some 22,22,.fld 2 (.t 3),(some (21,true)),[3]⟩,
⟨some 23,23,.load false 1 (.t 22),(some (21,true)),[4,3]⟩,
⟨some 24,24,.bin false .eql (.t 23) (.k (.c (.s (.pv (.string ⟨#[]⟩))))),(some (21,true)),[5,3]⟩,
⟨some 25,25,.pick (.t 21) (.t 24) (.k (.c (.s (.pv (.bool false))))),none,[3,6]⟩])
(.cond (.t 25) (.seq (.draw [⟨some 26,26,.fld 0 (.t 3),none,[]⟩,
⟨some 27,27,.load false 1 (.t 26),none,[0]⟩,
⟨some 28,28,.call 70 [],none,[]⟩,
⟨some 29,29,.call 69 [.t 27,.t 28],none,[1,2,2]⟩,
⟨some 4,4,.mv (.t 29),none,[3,3,0,1,2,3]⟩])
.ret) .skip))
(.seq (.seq (.reg [⟨some 30,30,.load true 3 (.t 3),none,[]⟩,
⟨some 31,31,.call 71 [.t 30],none,[0]⟩,
⟨some 32,32,.not (.t 31),none,[1]⟩])
(.cond (.t 32) (.seq (.reg [⟨some 4,4,.mv (.k (.c .zc)),none,[]⟩])
.ret) .skip))
(.seq (.draw [⟨some 33,33,.fld 0 (.t 3),none,[]⟩,
⟨some 34,34,.load false 1 (.t 33),none,[0]⟩,
⟨some 35,35,.load true 3 (.t 3),none,[]⟩,
⟨some 36,36,.call 72 [.t 35],none,[2]⟩,
⟨some 37,37,.call 69 [.t 34,.t 36],none,[1,3,3]⟩,
⟨some 4,4,.mv (.t 37),none,[4,4,0,1,2,3,4]⟩])
.ret)))))
theorem fn40 : FnIs Tryz.prog 40 ac40 [.t 4] 38 := ⟨Tryz.f40,Tryz.func40,by kernel_rfl,by kernel_rfl,by kernel_rfl⟩
def ac49 : ACode := (.seq (.reg [⟨some 1,1,.box 38 2 (.t 0),none,[]⟩,
⟨some 2,2,.mk 38 2 [[.zc,.zc]],none,[]⟩])
(.seq (.seq (.reg [⟨some 3,3,.load true 2 (.t 1),none,[]⟩,
⟨some 4,4,.call 92 [.t 3],none,[0]⟩,
⟨some 5,5,.not (.t 4),none,[1]⟩])
(.cond (.t 5) (.seq (.reg [⟨some 6,6,.load true 2 (.t 1),none,[]⟩,
⟨none,12,.store 2 (.t 2) (.t 6),none,[0,0]⟩])
.ret) .skip))
(.seq (.reg [⟨some 7,7,.load true 2 (.t 1),none,[]⟩,
⟨some 8,8,.fld 1 (.t 1),none,[]⟩,
⟨some 9,9,.load false 1 (.t 8),none,[1]⟩,
⟨some 10,10,.call 93 [.t 7,.t 9],none,[0,2]⟩,
⟨none,15,.store 2 (.t 2) (.t 10),none,[3,3,0,1,2,3]⟩])
.ret)))
theorem fn49 : FnIs Tryz.prog 49 ac49 [.cell 2 true 2] 11 := ⟨Tryz.f49,Tryz.func49,by kernel_rfl,by kernel_rfl,by kernel_rfl⟩
def ac50 : ACode := (.seq (.reg [⟨some 2,2,.box 38 2 (.t 0),none,[]⟩,
⟨some 3,3,.box 120 2 (.t 1),none,[]⟩,
⟨some 4,4,.mk 38 2 [[.zc,.zc]],none,[]⟩,
⟨some 5,5,.mv (.k (.c (.s (.pv (.int .i64 0))))),none,[]⟩])
(.seq (.seq (.reg [⟨some 6,6,.load true 2 (.t 2),none,[]⟩,
⟨some 7,7,.call 92 [.t 6],none,[0]⟩,
⟨some 8,8,.not (.t 7),none,[1]⟩,
⟨some 9,9,.mv (.t 8),none,[2,1]⟩,
⟨some 10,10,.load true 2 (.t 2),(some (9,false)),[3]⟩,
⟨some 11,11,.load true 2 (.t 3),(some (9,false)),[3]⟩,
⟨some 12,12,.call 94 [.t 10,.t 11],(some (9,false)),[4,5,3,3]⟩,
⟨some 13,13,.not (.t 12),(some (9,false)),[6,3]⟩,
⟨some 14,14,.pick (.t 9) (.k (.c (.s (.pv (.bool true))))) (.t 13),none,[3,7]⟩])
(.cond (.t 14) (.seq (.reg [⟨some 15,15,.load true 2 (.t 2),none,[]⟩,
⟨none,31,.store 2 (.t 4) (.t 15),none,[0,0]⟩,
⟨some 5,5,.mv (.k (.c (.s (.pv (.int .i64 1))))),none,[1,0,1]⟩])
.ret) .skip))
(.seq (.seq (.reg [⟨some 16,16,.fld 1 (.t 2),none,[]⟩,
⟨some 17,17,.load false 1 (.t 16),none,[0]⟩,
⟨some 18,18,.len (.t 17),none,[1]⟩,
⟨some 19,19,.bin false .eql (.t 18) (.k (.c (.s (.pv (.int .i64 200))))),none,[2]⟩])
(.cond (.t 19) (.seq (.reg [⟨some 20,20,.load true 2 (.t 2),none,[]⟩,
⟨none,31,.store 2 (.t 4) (.t 20),none,[0,0]⟩,
⟨some 5,5,.mv (.k (.c (.s (.pv (.int .i64 7))))),none,[1,0,1]⟩])
.ret) .skip))
(.seq (.draw [⟨some 21,21,.fld 0 (.t 2),none,[]⟩,
⟨some 22,22,.load false 1 (.t 21),none,[0]⟩,
⟨some 23,23,.fld 1 (.t 2),none,[]⟩,
⟨some 24,24,.load false 1 (.t 23),none,[2]⟩,
⟨some 25,25,.call 95 [.t 24],none,[3]⟩,
⟨some 26,26,.load true 2 (.t 3),none,[]⟩,
⟨some 27,27,.bslice 120 2 [.s (.pv (.int .i64 0)),.s (.pv (.string ⟨#[]⟩))] 1 [(0,2,(.t 26))],none,[5]⟩,
⟨some 28,28,.app 120 2 24 (.t 25) (.t 27),none,[4,6,4]⟩,
⟨some 29,29,.build [.zc,.zc] [(0,1,(.t 22)),(1,1,(.t 28))],none,[1,7]⟩,
⟨none,39,.store 2 (.t 4) (.t 29),none,[8,7,0,1,2,3,4,5,6,7,8]⟩,
⟨some 5,5,.mv (.k (.c (.s (.pv (.int .i64 0))))),none,[9,0,1,2,3,4,5,6,7,8,9]⟩])
.ret))))
theorem fn50 : FnIs Tryz.prog 50 ac50 [.cell 4 true 2,.t 5] 30 := ⟨Tryz.f50,Tryz.func50,by kernel_rfl,by kernel_rfl,by kernel_rfl⟩
def ac52 : ACode := (.seq (.reg [⟨some 2,2,.box 38 2 (.t 0),none,[]⟩,
⟨some 4,4,.mv (.k (.c (.s (.pv (.string ⟨#[]⟩))))),none,[]⟩])
(.seq (.draw [⟨some 5,5,.load true 2 (.t 2),none,[]⟩,
⟨some 6,6,.mv (.t 1),none,[]⟩,
⟨some 7,7,.bin false .mul (.k (.c (.s (.pv (.int .i64 2))))) (.t 6),none,[1]⟩,
⟨some 8,8,.bin false .add (.t 7) (.k (.c (.s (.pv (.int .i64 1))))),none,[2]⟩,
⟨some 9,9,.call 58 [.t 5,.t 8],none,[0,3]⟩,
⟨some 10,10,.load true 2 (.t 2),none,[]⟩,
⟨some 11,11,.mv (.t 1),none,[]⟩,
⟨some 12,12,.bin false .mul (.k (.c (.s (.pv (.int .i64 2))))) (.t 11),none,[6]⟩,
⟨some 13,13,.bin false .add (.t 12) (.k (.c (.s (.pv (.int .i64 2))))),none,[7]⟩,
⟨some 14,14,.call 58 [.t 10,.t 13],none,[5,8,4]⟩,
⟨some 15,15,.bin false .add (.t 9) (.t 14),none,[4,9]⟩,
⟨some 4,4,.mv (.t 15),none,[10,9,0,1,2,3,4,5,6,7,8,9,10]⟩])
.ret))
theorem fn52 : FnIs Tryz.prog 52 ac52 [.t 4] 16 := ⟨Tryz.f52,Tryz.func52,by kernel_rfl,by kernel_rfl,by kernel_rfl⟩
def ac53 : ACode := (.seq (.reg [⟨some 2,2,.box 38 2 (.t 0),none,[]⟩,
⟨some 4,4,.mv (.k (.c (.s (.pv (.string ⟨#[]⟩))))),none,[]⟩,
⟨some 5,5,.mv (.k (.c (.s (.pv (.int .i64 0))))),none,[1]⟩])
(.seq (.seq (.reg [⟨some 10,10,.load true 2 (.t 2),none,[]⟩,
⟨some 11,11,.call 97 [.t 10],none,[0]⟩,
⟨some 12,12,.not (.t 11),none,[1]⟩,
⟨some 13,13,.mv (.t 12),none,[2,1]⟩,
⟨some 14,14,.mv (.t 1),(some (13,false)),[3]⟩,
⟨some 15,15,.call 98 [.t 14],(some (13,false)),[4,3,3]⟩,
⟨some 16,16,.not (.t 15),(some (13,false)),[5,3]⟩,
⟨some 17,17,.pick (.t 13) (.k (.c (.s (.pv (.bool true))))) (.t 16),none,[3,6]⟩])
(.cond (.t 17) (.seq (.reg [⟨some 4,4,.mv (.k (.c (.s (.pv (.string ⟨#[]⟩))))),none,[]⟩,
⟨some 5,5,.mv (.k (.c (.s (.pv (.int .i64 1))))),none,[0,0]⟩])
.ret) .skip))
(.seq (.draw [⟨some 19,19,.load true 2 (.t 2),none,[]⟩,
⟨some 20,20,.mv (.t 1),none,[]⟩,
⟨some 21,21,.call 100 [.t 20],none,[1]⟩,
⟨some 22,22,.call 99 [.t 19,.t 21],none,[0,2,2]⟩,
⟨some 18,18,.mv (.t 22),none,[3]⟩,
⟨some 23,23,.ext 0 (.t 18),none,[4]⟩,
⟨some 24,24,.ext 1 (.t 18),none,[4]⟩,
⟨some 6,6,.mv (.t 23),none,[5,3,0,1,2,3,4,5]⟩,
⟨some 7,7,.mv (.t 24),none,[6,7,0,1,2,3,4,5,6,7]⟩])
(.seq (.draw [⟨some 26,26,.load true 2 (.t 2),none,[]⟩,
⟨some 27,27,.mv (.t 1),none,[]⟩,
⟨some 28,28,.call 100 [.t 27],none,[1]⟩,
⟨some 29,29,.bin false .add (.t 28) (.k (.c (.s (.pv (.int .i64 1))))),none,[2]⟩,
⟨some 30,30,.call 99 [.t 26,.t 29],none,[0,3,2]⟩,
⟨some 25,25,.mv (.t 30),none,[4]⟩,
⟨some 31,31,.ext 0 (.t 25),none,[5]⟩,
⟨some 32,32,.ext 1 (.t 25),none,[5]⟩,
⟨some 8,8,.mv (.t 31),none,[6,4,0,1,2,3,4,5,6]⟩,
⟨some 9,9,.mv (.t 32),none,[7,8,0,1,2,3,4,5,6,7,8]⟩])
(.seq (.reg [⟨some 33,33,.mv (.t 6),none,[]⟩,
⟨some 34,34,.mv (.t 8),none,[]⟩,
⟨some 35,35,.bin false .add (.t 33) (.t 34),none,[0,1]⟩,
⟨some 4,4,.mv (.t 35),none,[2,0,1,2]⟩,
⟨some 5,5,.mv (.k (.c (.s (.pv (.int .i64 0))))),none,[3,0,1,2,3]⟩])
.ret)))))
theorem fn53 : FnIs Tryz.prog 53 ac53 [.t 4,.t 5] 36 := ⟨Tryz.f53,Tryz.func53,by kernel_rfl,by kernel_rfl,by kernel_rfl⟩
def ac55 : ACode := (.seq (.reg [⟨some 1,1,.box 38 2 (.t 0),none,[]⟩,
⟨some 2,2,.mk 38 2 [[.zc,.zc]],none,[]⟩])
(.seq (.reg [⟨some 4,4,.load true 2 (.t 1),none,[]⟩,
⟨some 5,5,.call 66 [.t 4],none,[0]⟩,
⟨some 3,3,.mv (.t 5),none,[1,1,0,1]⟩])
(.seq (.reg [⟨some 6,6,.load true 2 (.t 1),none,[]⟩,
⟨some 7,7,.mv (.t 3),none,[]⟩,
⟨some 8,8,.mv (.t 3),none,[]⟩,
⟨some 9,9,.len (.t 8),none,[2]⟩,
⟨some 10,10,.call 23 [.t 6,.t 7,.t 9],none,[0,1,3]⟩,
⟨none,16,.store 2 (.t 2) (.t 10),none,[4,4,0,1,2,3,4]⟩])
.ret)))
theorem fn55 : FnIs Tryz.prog 55 ac55 [.cell 2 true 2] 11 := ⟨Tryz.f55,Tryz.func55,by kernel_rfl,by kernel_rfl,by kernel_rfl⟩
def ac56 : ACode := (.seq (.reg [⟨some 1,1,.box 38 2 (.t 0),none,[]⟩,
⟨some 2,2,.mv (.k (.c (.s (.pv (.bool false))))),none,[]⟩])
(.seq (.seq (.reg [⟨some 6,6,.fld 0 (.t 1),none,[]⟩,
⟨some 7,7,.load false 1 (.t 6),none,[0]⟩,
⟨some 8,8,.len (.t 7),none,[1]⟩,
⟨some 9,9,.bin false .lss (.t 8) (.k (.c (.s (.pv (.int .i64 1))))),none,[2]⟩,
⟨some 10,10,.mv (.t 9),none,[3]⟩,
⟨some 11,11,.fld 0 (.t 1),(some (10,false)),[4]⟩,
⟨some 12,12,.load false 1 (.t 11),(some (10,false)),[5,4]⟩,
⟨some 13,13,.len (.t 12),(some (10,false)),[6,4]⟩,
⟨some 14,14,.bin false .gtr (.t 13) (.k (.c (.s (.pv (.int .i64 64))))),(some (10,false)),[7,4]⟩,
⟨some 15,15,.pick (.t 10) (.k (.c (.s (.pv (.bool true))))) (.t 14),none,[4,8]⟩,
⟨some 16,16,.mv (.t 15),none,[9,4]⟩,
⟨some 17,17,.fld 1 (.t 1),(some (16,false)),[10]⟩,
⟨some 18,18,.load false 1 (.t 17),(some (16,false)),[11,10]⟩,
⟨some 19,19,.len (.t 18),(some (16,false)),[12,10]⟩,
⟨some 20,20,.bin false .gtr (.t 19) (.k (.c (.s (.pv (.int .i64 200))))),(some (16,false)),[13,10]⟩,
⟨some 21,21,.pick (.t 16) (.k (.c (.s (.pv (.bool true))))) (.t 20),none,[10,14]⟩])
(.cond (.t 21) (.seq (.reg [⟨some 2,2,.mv (.k (.c (.s (.pv (.bool false))))),none,[]⟩])
.ret) .skip))
(.seq (.seq (.reg [⟨some 3,3,.mv (.k (.c (.s (.pv (.int .i64 0))))),none,[]⟩])
(.block 0 (.loop (.seq (.seq (.reg [⟨some 22,22,.mv (.t 3),none,[]⟩,
⟨some 23,23,.fld 0 (.t 1),none,[]⟩,
⟨some 24,24,.load false 1 (.t 23),none,[1]⟩,
⟨some 25,25,.len (.t 24),none,[2]⟩,
⟨some 26,26,.bin false .lss (.t 22) (.t 25),none,[0,3]⟩])
(.cond (.t 26) .skip (.exit 0)))
(.seq (.block 1 (.seq (.reg [⟨some 29,29,.fld 0 (.t 1),none,[]⟩,
⟨some 30,30,.load false 1 (.t 29),none,[0]⟩,
⟨some 31,31,.mv (.t 3),none,[]⟩,
⟨some 32,32,.idx 1 (.t 30) (.t 31),none,[1,2]⟩,
⟨some 33,33,.load false 1 (.t 32),none,[3]⟩,
⟨some 34,34,.slen (.t 33),none,[4]⟩,
⟨some 35,35,.bin false .neq (.t 34) (.k (.c (.s (.pv (.int .i64 16))))),none,[5]⟩])
(.cond (.t 35) (.seq (.reg [⟨some 2,2,.mv (.k (.c (.s (.pv (.bool false))))),none,[]⟩])
.ret) .skip)))
(.reg [⟨some 27,27,.mv (.t 3),none,[]⟩,
⟨some 28,28,.bin false .add (.t 27) (.k (.c (.s (.pv (.int .i64 1))))),none,[0]⟩,
⟨some 3,3,.mv (.t 28),none,[1,0,1]⟩]))))))
(.seq (.seq (.reg [⟨some 4,4,.mv (.k (.c (.s (.pv (.int .i64 0))))),none,[]⟩])
(.block 2 (.loop (.seq (.seq (.reg [⟨some 36,36,.mv (.t 4),none,[]⟩,
⟨some 37,37,.fld 1 (.t 1),none,[]⟩,
⟨some 38,38,.load false 1 (.t 37),none,[1]⟩,
⟨some 39,39,.len (.t 38),none,[2]⟩,
⟨some 40,40,.bin false .lss (.t 36) (.t 39),none,[0,3]⟩])
(.cond (.t 40) .skip (.exit 2)))
(.seq (.block 3 (.seq (.reg [⟨some 43,43,.fld 1 (.t 1),none,[]⟩,
⟨some 44,44,.load false 1 (.t 43),none,[0]⟩,
⟨some 45,45,.mv (.t 4),none,[]⟩,
⟨some 46,46,.idx 2 (.t 44) (.t 45),none,[1,2]⟩,
⟨some 47,47,.load true 2 (.t 46),none,[3]⟩,
⟨some 5,5,.mk 120 2 [[.s (.pv (.int .i64 0)),.s (.pv (.string ⟨#[]⟩))]],none,[]⟩,
⟨none,71,.store 2 (.t 5) (.t 47),none,[5,4,0,1,2,3,4,5]⟩])
(.seq (.reg [⟨some 48,48,.fld 0 (.t 5),none,[]⟩,
⟨some 49,49,.load false 1 (.t 48),none,[0]⟩,
⟨some 50,50,.bin false .lss (.t 49) (.k (.c (.s (.pv (.int .i64 0))))),none,[1]⟩,
⟨some 51,51,.mv (.t 50),none,[2]⟩,
⟨some 52,52,.fld 0 (.t 5),(some (51,false)),[3]⟩,
⟨some 53,53,.load false 1 (.t 52),(some (51,false)),[4,3]⟩,
⟨some 54,54,.fld 0 (.t 1),(some (51,false)),[3]⟩,
⟨some 55,55,.load false 1 (.t 54),(some (51,false)),[6,3]⟩,
⟨some 56,56,.len (.t 55),(some (51,false)),[7,3]⟩,
⟨some 57,57,.bin false .geq (.t 53) (.t 56),(some (51,false)),[5,8,3]⟩,
⟨some 58,58,.pick (.t 51) (.k (.c (.s (.pv (.bool true))))) (.t 57),none,[3,9]⟩,
⟨some 59,59,.mv (.t 58),none,[10,3]⟩,
⟨some 60,60,.fld 1 (.t 5),(some (59,false)),[11]⟩,
⟨some 61,61,.load false 1 (.t 60),(some (59,false)),[12,11]⟩,
⟨some 62,62,.slen (.t 61),(some (59,false)),[13,11]⟩,
⟨some 63,63,.bin false .neq (.t 62) (.k (.c (.s (.pv (.int .i64 16))))),(some (59,false)),[14,11]⟩,
⟨some 64,64,.pick (.t 59) (.k (.c (.s (.pv (.bool true))))) (.t 63),none,[11,15]⟩])
(.cond (.t 64) (.seq (.reg [⟨some 2,2,.mv (.k (.c (.s (.pv (.bool false))))),none,[]⟩])
.ret) .skip))))
(.reg [⟨some 41,41,.mv (.t 4),none,[]⟩,
⟨some 42,42,.bin false .add (.t 41) (.k (.c (.s (.pv (.int .i64 1))))),none,[0]⟩,
⟨some 4,4,.mv (.t 42),none,[1,0,1]⟩]))))))
(.seq (.reg [⟨some 2,2,.mv (.k (.c (.s (.pv (.bool true))))),none,[]⟩])
.ret)))))
theorem fn56 : FnIs Tryz.prog 56 ac56 [.t 2] 65 := ⟨Tryz.f56,Tryz.func56,by kernel_rfl,by kernel_rfl,by kernel_rfl⟩
def ac57 : ACode := (.seq (.reg [⟨some 1,1,.box 38 2 (.t 0),none,[]⟩,
⟨some 2,2,.mk 38 2 [[.zc,.zc]],none,[]⟩])
(.seq (.reg [⟨some 3,3,.mk 38 2 [[.zc,.zc]],none,[]⟩])
(.seq (.seq (.reg [⟨some 4,4,.mv (.k (.c (.s (.pv (.int .i64 0))))),none,[]⟩])
(.block 0 (.loop (.seq (.seq (.reg [⟨some 5,5,.mv (.t 4),none,[]⟩,
⟨some 6,6,.fld 0 (.t 1),none,[]⟩,
⟨some 7,7,.load false 1 (.t 6),none,[1]⟩,
⟨some 8,8,.len (.t 7),none,[2]⟩,
⟨some 9,9,.bin false .lss (.t 5) (.t 8),none,[0,3]⟩])
(.cond (.t 9) .skip (.exit 0)))
(.seq (.block 1 (.draw [⟨some 12,12,.fld 0 (.t 3),none,[]⟩,
⟨some 13,13,.load false 1 (.t 12),none,[0]⟩,
⟨some 14,14,.load true 2 (.t 1),none,[]⟩,
⟨some 15,15,.mv (.t 4),none,[]⟩,
⟨some 16,16,.call 58 [.t 14,.t 15],none,[2,3]⟩,
⟨some 17,17,.bslice 9 1 [.s (.pv (.string ⟨#[]⟩))] 1 [(0,1,(.t 16))],none,[4]⟩,
⟨some 18,18,.app 9 1 16 (.t 13) (.t 17),none,[1,5,4]⟩,
⟨some 19,19,.fld 0 (.t 3),none,[0,1,2,3,4,5,6]⟩,
⟨none,29,.store 1 (.t 19) (.t 18),none,[7,6,6,0,1,2,3,4,5,6]⟩]))
(.reg [⟨some 10,10,.mv (.t 4),none,[]⟩,
⟨some 11,11,.bin false .add (.t 10) (.k (.c (.s (.pv (.int .i64 1))))),none,[0]⟩,
⟨some 4,4,.mv (.t 11),none,[1,0,1]⟩]))))))
(.seq (.reg [⟨some 20,20,.load true 2 (.t 3),none,[]⟩,
⟨none,22,.store 2 (.t 2) (.t 20),none,[0,0]⟩])
.ret))))
theorem fn57 : FnIs Tryz.prog 57 ac57 [.cell 2 true 2] 21 := ⟨Tryz.f57,Tryz.func57,by kernel_rfl,by kernel_rfl,by kernel_rfl⟩
def ac58 : ACode := (.seq (.reg [⟨some 2,2,.box 38 2 (.t 0),none,[]⟩,
⟨some 4,4,.mv (.k (.c (.s (.pv (.string ⟨#[]⟩))))),none,[]⟩])
(.seq (.seq (.reg [⟨some 6,6,.fld 1 (.t 2),none,[]⟩,
⟨some 7,7,.load false 1 (.t 6),none,[0]⟩,
⟨some 8,8,.len (.t 7),none,[1]⟩,
⟨some 9,9,.bin false .sub (.t 8) (.k (.c (.s (.pv (.int .i64 1))))),none,[2]⟩,
⟨some 5,5,.mv (.t 9),none,[3,0,1,2,3]⟩])
(.block 0 (.loop (.seq (.seq (.reg [⟨some 10,10,.mv (.t 5),none,[]⟩,
⟨some 11,11,.bin false .geq (.t 10) (.k (.c (.s (.pv (.int .i64 0))))),none,[0]⟩])
(.cond (.t 11) .skip (.exit 0)))
(.seq (.block 1 (.seq (.reg [⟨some 14,14,.fld 1 (.t 2),none,[]⟩,
⟨some 15,15,.load false 1 (.t 14),none,[0]⟩,
⟨some 16,16,.mv (.t 5),none,[]⟩,
⟨some 17,17,.idx 2 (.t 15) (.t 16),none,[1,2]⟩,
⟨some 18,18,.fld 0 (.t 17),none,[3]⟩,
⟨some 19,19,.load false 1 (.t 18),none,[4]⟩,
⟨some 20,20,.mv (.t 1),none,[]⟩,
⟨some 21,21,.bin false .eql (.t 19) (.t 20),none,[5,6]⟩])
(.cond (.t 21) (.seq (.reg [⟨some 22,22,.fld 1 (.t 2),none,[]⟩,
⟨some 23,23,.load false 1 (.t 22),none,[0]⟩,
⟨some 24,24,.mv (.t 5),none,[]⟩,
⟨some 25,25,.idx 2 (.t 23) (.t 24),none,[1,2]⟩,
⟨some 26,26,.fld 1 (.t 25),none,[3]⟩,
⟨some 27,27,.load false 1 (.t 26),none,[4]⟩,
⟨some 4,4,.mv (.t 27),none,[5,0,1,2,3,4,5]⟩])
.ret) .skip)))
(.reg [⟨some 12,12,.mv (.t 5),none,[]⟩,
⟨some 13,13,.bin false .sub (.t 12) (.k (.c (.s (.pv (.int .i64 1))))),none,[0]⟩,
⟨some 5,5,.mv (.t 13),none,[1,0,1]⟩]))))))
(.seq (.reg [⟨some 28,28,.fld 0 (.t 2),none,[]⟩,
⟨some 29,29,.load false 1 (.t 28),none,[0]⟩,
⟨some 30,30,.mv (.t 1),none,[]⟩,
⟨some 31,31,.idx 1 (.t 29) (.t 30),none,[1,2]⟩,
⟨some 32,32,.load false 1 (.t 31),none,[3]⟩,
⟨some 4,4,.mv (.t 32),none,[4,0,1,2,3,4]⟩])
.ret)))
theorem fn58 : FnIs Tryz.prog 58 ac58 [.t 4] 33 := ⟨Tryz.f58,Tryz.func58,by kernel_rfl,by kernel_rfl,by kernel_rfl⟩
def ac59 : ACode := (.seq (.reg [⟨some 2,2,.mv (.k (.c (.s (.pv (.string ⟨#[]⟩))))),none,[]⟩])
(.seq (.block 0 (.loop (.seq (.seq (.reg [⟨some 3,3,.mv (.t 0),none,[]⟩,
⟨some 4,4,.slen (.t 3),none,[0]⟩,
⟨some 5,5,.bin false .lss (.t 4) (.k (.c (.s (.pv (.int .i64 16))))),none,[1]⟩])
(.cond (.t 5) .skip (.exit 0)))
(.block 1 (.reg [⟨some 6,6,.mv (.t 0),none,[]⟩,
⟨some 7,7,.bslice 5 1 [.s (.pv (.int .u8 0))] 1 [(0,1,(.k (.c (.s (.pv (.int .u8 0))))))],none,[]⟩,
⟨some 8,8,.b2s (.t 7),none,[1]⟩,
⟨some 9,9,.bin false .add (.t 6) (.t 8),none,[0,2]⟩,
⟨some 0,0,.mv (.t 9),none,[3,0,1,2,3]⟩])))))
(.seq (.reg [⟨some 10,10,.mv (.t 0),none,[]⟩,
⟨some 2,2,.mv (.t 10),none,[0,0]⟩])
.ret)))
theorem fn59 : FnIs Tryz.prog 59 ac59 [.t 2] 11 := ⟨Tryz.f59,Tryz.func59,by kernel_rfl,by kernel_rfl,by kernel_rfl⟩
def ac60 : ACode := (.seq (.reg [⟨some 4,4,.mk 131 3 [[.s (.pv (.bool false)),.s (.pv (.int .i64 0)),.s (.pv (.string ⟨#[]⟩))]],none,[]⟩])
(.seq (.reg [⟨some 5,5,.mv (.t 0),none,[]⟩,
⟨some 6,6,.mv (.t 1),none,[]⟩,
⟨some 7,7,.build [.s (.pv (.int .i64 0)),.s (.pv (.string ⟨#[]⟩))] [(0,1,(.t 5)),(1,1,(.t 6))],none,[0,1]⟩,
⟨some 8,8,.build [.s (.pv (.bool false)),.s (.pv (.int .i64 0)),.s (.pv (.string ⟨#[]⟩))] [(1,2,(.t 7))],none,[2]⟩,
⟨none,13,.store 3 (.t 4) (.t 8),none,[3,0,1,2,3]⟩])
.ret))
theorem fn60 : FnIs Tryz.prog 60 ac60 [.cell 4 true 3] 9 := ⟨Tryz.f60,Tryz.func60,by kernel_rfl,by kernel_rfl,by kernel_rfl⟩
def ac66 : ACode := (.seq (.reg [⟨some 1,1,.box 38 2 (.t 0),none,[]⟩,
⟨some 2,2,.mv (.k (.c .zc)),none,[]⟩])
(.seq (.seq (.reg [⟨some 12,12,.load true 2 (.t 1),none,[]⟩,
⟨some 13,13,.call 97 [.t 12],none,[0]⟩,
⟨some 14,14,.not (.t 13),none,[1]⟩])
(.cond (.t 14) (.seq (.reg [⟨some 2,2,.mv (.k (.c .zc)),none,[]⟩])
.ret) .skip))
(.seq (.reg [⟨some 16,16,.load true 2 (.t 1),none,[]⟩,
⟨some 17,17,.call 99 [.t 16,.k (.c (.s (.pv (.int .i64 0))))],none,[0]⟩,
⟨some 15,15,.mv (.t 17),none,[1]⟩,
⟨some 18,18,.ext 0 (.t 15),none,[2]⟩,
⟨some 19,19,.ext 1 (.t 15),none,[2]⟩,
⟨some 3,3,.mv (.t 18),none,[3,1,0,1,2,3]⟩,
⟨some 4,4,.mv (.t 19),none,[4,5,0,1,2,3,4,5]⟩])
(.seq (.seq (.reg [⟨some 20,20,.mv (.t 3),none,[]⟩,
⟨some 21,21,.bin false .eql (.t 20) (.k (.c (.s (.pv (.string ⟨#[0,0,0,0,0,0,0,0,0,0,0,0,0,0,0,0]⟩))))),none,[0]⟩])
(.cond (.t 21) (.seq (.reg [⟨some 2,2,.mv (.k (.c .zc)),none,[]⟩])
.ret) .skip))
(.seq (.reg [⟨some 5,5,.mv (.k (.c .zc)),none,[]⟩])
(.seq (.seq (.reg [⟨some 23,23,.mv (.t 3),none,[]⟩,
⟨some 24,24,.call 102 [.t 23],none,[0]⟩,
⟨some 22,22,.mv (.t 24),none,[1]⟩,
⟨some 25,25,.ext 0 (.t 22),none,[2]⟩,
⟨some 26,26,.ext 1 (.t 22),none,[2]⟩,
⟨some 6,6,.mv (.t 25),none,[3,1,0,1,2,3]⟩,
⟨some 7,7,.mv (.t 26),none,[4,5,0,1,2,3,4,5]⟩])
(.seq (.reg [⟨some 27,27,.mv (.t 7),none,[]⟩])
(.cond (.t 27) (.seq (.reg [⟨some 29,29,.load true 2 (.t 1),none,[]⟩,
⟨some 30,30,.call 99 [.t 29,.k (.c (.s (.pv (.int .i64 1))))],none,[0]⟩,
⟨some 28,28,.mv (.t 30),none,[1]⟩,
⟨some 31,31,.ext 0 (.t 28),none,[2]⟩,
⟨some 32,32,.ext 1 (.t 28),none,[2]⟩,
⟨some 8,8,.mv (.t 31),none,[3,1,0,1,2,3]⟩,
⟨some 9,9,.mv (.t 32),none,[4,5,0,1,2,3,4,5]⟩])
(.seq (.reg [⟨some 34,34,.load true 2 (.t 1),none,[]⟩,
⟨some 35,35,.call 99 [.t 34,.k (.c (.s (.pv (.int .i64 2))))],none,[0]⟩,
⟨some 33,33,.mv (.t 35),none,[1]⟩,
⟨some 36,36,.ext 0 (.t 33),none,[2]⟩,
⟨some 37,37,.ext 1 (.t 33),none,[2]⟩,
⟨some 10,10,.mv (.t 36),none,[3,1,0,1,2,3]⟩,
⟨some 11,11,.mv (.t 37),none,[4,5,0,1,2,3,4,5]⟩])
(.reg [⟨some 38,38,.mv (.t 5),none,[]⟩,
⟨some 39,39,.mv (.t 6),none,[]⟩,
⟨some 40,40,.call 100 [.t 39],none,[1]⟩,
⟨some 41,41,.mv (.t 8),none,[]⟩,
⟨some 42,42,.call 103 [.t 40,.t 41],none,[2,3,2]⟩,
⟨some 43,43,.mv (.t 6),none,[]⟩,
⟨some 44,44,.call 100 [.t 43],none,[5,4]⟩,
⟨some 45,45,.bin false .add (.t 44) (.k (.c (.s (.pv (.int .i64 1))))),none,[6]⟩,
⟨some 46,46,.mv (.t 10),none,[]⟩,
⟨some 47,47,.call 103 [.t 45,.t 46],none,[7,8,6]⟩,
⟨some 48,48,.call 104 [],none,[9]⟩,
⟨some 49,49,.bslice 122 3 [.s (.pv (.bool false)),.s (.pv (.int .i64 0)),.s (.pv (.string ⟨#[]⟩))] 3 [(0,3,(.t 42)),(3,3,(.t 47)),(6,3,(.t 48))],none,[4,9,10]⟩,
⟨some 50,50,.app 122 3 32 (.t 38) (.t 49),none,[0,11,10]⟩,
⟨some 5,5,.mv (.t 50),none,[12,12,0,1,2,3,4,5,6,7,8,9,10,11,12]⟩]))) .skip)))
(.seq (.reg [⟨some 51,51,.mv (.t 5),none,[]⟩,
⟨some 52,52,.call 103 [.k (.c (.s (.pv (.int .i64 0)))),.k (.c (.s (.pv (.string ⟨#[0,0,0,0,0,0,0,0,0,0,0,0,0,0,0,0]⟩))))],none,[]⟩,
⟨some 53,53,.call 104 [],none,[1]⟩,
⟨some 54,54,.bslice 122 3 [.s (.pv (.bool false)),.s (.pv (.int .i64 0)),.s (.pv (.string ⟨#[]⟩))] 2 [(0,3,(.t 52)),(3,3,(.t 53))],none,[1,2]⟩,
⟨some 55,55,.app 122 3 32 (.t 51) (.t 54),none,[0,3,2]⟩,
⟨some 2,2,.mv (.t 55),none,[4,4,0,1,2,3,4]⟩])
.ret)))))))
theorem fn66 : FnIs Tryz.prog 66 ac66 [.t 2] 56 := ⟨Tryz.f66,Tryz.func66,by kernel_rfl,by kernel_rfl,by kernel_rfl⟩
def ac69 : ACode := (.seq (.reg [⟨some 4,4,.mv (.k (.c .zc)),none,[]⟩])
(.seq (.draw [⟨some 8,8,.mv (.t 1),none,[]⟩,
⟨some 9,9,.ssub (.t 8) none (some (.k (.c (.s (.pv (.int .i64 16)))))),none,[0]⟩,
⟨some 10,10,.mv (.t 1),none,[]⟩,
⟨some 11,11,.ssub (.t 10) (some (.k (.c (.s (.pv (.int .i64 16)))))) none,none,[2]⟩,
⟨some 5,5,.mv (.t 9),none,[1,0,1]⟩,
⟨some 6,6,.mv (.t 11),none,[3,4,0,1,2,3,4]⟩])
(.seq (.reg [⟨some 12,12,.mv (.t 0),none,[]⟩,
⟨some 13,13,.bin false .mul (.k (.c (.s (.pv (.int .i64 2))))) (.t 12),none,[0]⟩,
⟨some 14,14,.bin false .add (.t 13) (.k (.c (.s (.pv (.int .i64 1))))),none,[1]⟩,
⟨some 7,7,.mv (.t 14),none,[2,0,1,2]⟩])
(.seq (.draw [⟨some 15,15,.mv (.t 5),none,[]⟩,
⟨some 16,16,.call 60 [.k (.c (.s (.pv (.int .i64 1)))),.t 15],none,[0]⟩,
⟨some 17,17,.mv (.t 6),none,[]⟩,
⟨some 18,18,.call 60 [.k (.c (.s (.pv (.int .i64 2)))),.t 17],none,[2,1]⟩,
⟨some 19,19,.build [.s (.pv (.bool false)),.s (.pv (.int .i64 0)),.s (.pv (.string ⟨#[]⟩))] [(0,1,(.k (.c (.s (.pv (.bool true))))))],none,[]⟩,
⟨some 20,20,.mv (.t 0),none,[]⟩,
⟨some 21,21,.conv .u8 (.t 20),none,[5]⟩,
⟨some 22,22,.bslice 5 1 [.s (.pv (.int .u8 0))] 2 [(0,1,(.k (.c (.s (.pv (.int .u8 74)))))),(1,1,(.t 21))],none,[6]⟩,
⟨some 23,23,.b2s (.t 22),none,[7]⟩,
⟨some 24,24,.call 59 [.t 23],none,[8,3]⟩,
⟨some 25,25,.call 60 [.k (.c (.s (.pv (.int .i64 0)))),.t 24],none,[9,9]⟩,
⟨some 26,26,.build [.s (.pv (.bool false)),.s (.pv (.int .i64 0)),.s (.pv (.string ⟨#[]⟩))] [(0,1,(.k (.c (.s (.pv (.bool true))))))],none,[]⟩,
⟨some 27,27,.mv (.t 7),none,[]⟩,
⟨some 28,28,.mv (.t 5),none,[]⟩,
⟨some 29,29,.call 60 [.t 27,.t 28],none,[12,13,10]⟩,
⟨some 30,30,.mv (.t 7),none,[]⟩,
⟨some 31,31,.bin false .add (.t 30) (.k (.c (.s (.pv (.int .i64 1))))),none,[15]⟩,
⟨some 32,32,.mv (.t 6),none,[]⟩,
⟨some 33,33,.call 60 [.t 31,.t 32],none,[16,17,14]⟩,
⟨some 34,34,.build [.s (.pv (.bool false)),.s (.pv (.int .i64 0)),.s (.pv (.string ⟨#[]⟩))] [(0,1,(.k (.c (.s (.pv (.bool true))))))],none,[]⟩,
⟨some 35,35,.call 59 [.k (.c (.s (.pv (.string ⟨#[]⟩))))],none,[18]⟩,
⟨some 36,36,.call 60 [.k (.c (.s (.pv (.int .i64 0)))),.t 35],none,[20,20]⟩,
⟨some 37,37,.build [.s (.pv (.bool false)),.s (.pv (.int .i64 0)),.s (.pv (.string ⟨#[]⟩))] [(0,1,(.k (.c (.s (.pv (.bool true))))))],none,[]⟩,
⟨some 38,38,.bslice 131 3 [.s (.pv (.bool false)),.s (.pv (.int .i64 0)),.s (.pv (.string ⟨#[]⟩))] 10 [(0,3,(.t 16)),(3,3,(.t 18)),(6,3,(.t 19)),(9,3,(.t 25)),(12,3,(.t 26)),(15,3,(.t 29)),(18,3,(.t 33)),(21,3,(.t 34)),(24,3,(.t 36)),(27,3,(.t 37))],none,[1,3,4,10,11,14,18,19,21,22]⟩,
⟨some 4,4,.mv (.t 38),none,[23,21,0,1,2,3,4,5,6,7,8,9,10,11,12,13,14,15,16,17,18,19,20,21,22,23]⟩])
.ret))))
theorem fn69 : FnIs Tryz.prog 69 ac69 [.t 4] 39 := ⟨Tryz.f69,Tryz.func69,by kernel_rfl,by kernel_rfl,by kernel_rfl⟩
def ac70 : ACode := (.seq (.reg [⟨some 0,0,.mv (.k (.c (.s (.pv (.string ⟨#[]⟩))))),none,[]⟩])
(.seq (.reg [⟨some 1,1,.mv (.k (.c (.s (.pv (.string ⟨#[]⟩))))),none,[]⟩])
(.seq (.seq (.reg [⟨some 2,2,.mv (.k (.c (.s (.pv (.int .i64 0))))),none,[]⟩])
(.block 0 (.loop (.seq (.seq (.reg [⟨some 3,3,.mv (.t 2),none,[]⟩,
⟨some 4,4,.bin false .lss (.t 3) (.k (.c (.s (.pv (.int .i64 32))))),none,[0]⟩])
(.cond (.t 4) .skip (.exit 0)))
(.seq (.block 1 (.reg [⟨some 7,7,.mv (.t 1),none,[]⟩,
⟨some 8,8,.bslice 5 1 [.s (.pv (.int .u8 0))] 1 [(0,1,(.k (.c (.s (.pv (.int .u8 0))))))],none,[]⟩,
⟨some 9,9,.b2s (.t 8),none,[1]⟩,
⟨some 10,10,.bin false .add (.t 7) (.t 9),none,[0,2]⟩,
⟨some 1,1,.mv (.t 10),none,[3,0,1,2,3]⟩]))
(.reg [⟨some 5,5,.mv (.t 2),none,[]⟩,
⟨some 6,6,.bin false .add (.t 5) (.k (.c (.s (.pv (.int .i64 1))))),none,[0]⟩,
⟨some 2,2,.mv (.t 6),none,[1,0,1]⟩]))))))
(.seq (.reg [⟨some 11,11,.mv (.t 1),none,[]⟩,
⟨some 0,0,.mv (.t 11),none,[0,0]⟩])
.ret))))
theorem fn70 : FnIs Tryz.prog 70 ac70 [.t 0] 12 := ⟨Tryz.f70,Tryz.func70,by kernel_rfl,by kernel_rfl,by kernel_rfl⟩
def ac89 : ACode := (.seq (.reg [⟨some 1,1,.box 42 3 (.t 0),none,[]⟩,
⟨some 2,2,.mv (.k (.c (.s (.pv (.bool false))))),none,[]⟩])
(.seq (.reg [⟨some 3,3,.fld 0 (.t 1),none,[]⟩,
⟨some 4,4,.load false 1 (.t 3),none,[0]⟩,
⟨some 5,5,.bin false .geq (.t 4) (.k (.c (.s (.pv (.int .i64 1))))),none,[1]⟩,
⟨some 6,6,.mv (.t 5),none,[2]⟩,
⟨some 7,7,.fld 0 (.t 1),(some (6,true)),[3]⟩,
⟨some 8,8,.load false 1 (.t 7),(some (6,true)),[4,3]⟩,
⟨some 9,9,.bin false .leq (.t 8) (.k (.c (.s (.pv (.int .i64 16))))),(some (6,true)),[5,3]⟩,
⟨some 10,10,.pick (.t 6) (.t 9) (.k (.c (.s (.pv (.bool false))))),none,[3,6]⟩,
⟨some 11,11,.mv (.t 10),none,[7,3]⟩,
⟨some 12,12,.fld 1 (.t 1),(some (11,true)),[8]⟩,
⟨some 13,13,.load false 1 (.t 12),(some (11,true)),[9,8]⟩,
⟨some 14,14,.bin false .geq (.t 13) (.k (.c (.s (.pv (.int .i64 1))))),(some (11,true)),[10,8]⟩,
⟨some 15,15,.pick (.t 11) (.t 14) (.k (.c (.s (.pv (.bool false))))),none,[8,11]⟩,
⟨some 16,16,.mv (.t 15),none,[12,8]⟩,
⟨some 17,17,.fld 1 (.t 1),(some (16,true)),[13]⟩,
⟨some 18,18,.load false 1 (.t 17),(some (16,true)),[14,13]⟩,
⟨some 19,19,.bin false .leq (.t 18) (.k (.c (.s (.pv (.int .i64 2147483647))))),(some (16,true)),[15,13]⟩,
⟨some 20,20,.pick (.t 16) (.t 19) (.k (.c (.s (.pv (.bool false))))),none,[13,16]⟩,
⟨some 21,21,.mv (.t 20),none,[17,13]⟩,
⟨some 22,22,.fld 2 (.t 1),(some (21,true)),[18]⟩,
⟨some 23,23,.load false 1 (.t 22),(some (21,true)),[19,18]⟩,
⟨some 24,24,.slen (.t 23),(some (21,true)),[20,18]⟩,
⟨some 25,25,.bin false .leq (.t 24) (.k (.c (.s (.pv (.int .i64 16))))),(some (21,true)),[21,18]⟩,
⟨some 26,26,.pick (.t 21) (.t 25) (.k (.c (.s (.pv (.bool false))))),none,[18,22]⟩,
⟨some 2,2,.mv (.t 26),none,[23,18,0,1,2,3,4,5,6,7,8,9,10,11,12,13,14,15,16,17,18,19,20,21,22,23]⟩])
.ret))
theorem fn89 : FnIs Tryz.prog 89 ac89 [.t 2] 27 := ⟨Tryz.f89,Tryz.func89,by kernel_rfl,by kernel_rfl,by kernel_rfl⟩
def ac92 : ACode := (.seq (.reg [⟨some 1,1,.box 38 2 (.t 0),none,[]⟩,
⟨some 2,2,.mv (.k (.c (.s (.pv (.bool false))))),none,[]⟩])
(.seq (.seq (.reg [⟨some 7,7,.fld 0 (.t 1),none,[]⟩,
⟨some 8,8,.load false 1 (.t 7),none,[0]⟩,
⟨some 9,9,.len (.t 8),none,[1]⟩,
⟨some 10,10,.bin false .lss (.t 9) (.k (.c (.s (.pv (.int .i64 1))))),none,[2]⟩,
⟨some 11,11,.mv (.t 10),none,[3]⟩,
⟨some 12,12,.fld 0 (.t 1),(some (11,false)),[4]⟩,
⟨some 13,13,.load false 1 (.t 12),(some (11,false)),[5,4]⟩,
⟨some 14,14,.len (.t 13),(some (11,false)),[6,4]⟩,
⟨some 15,15,.bin false .gtr (.t 14) (.k (.c (.s (.pv (.int .i64 64))))),(some (11,false)),[7,4]⟩,
⟨some 16,16,.pick (.t 11) (.k (.c (.s (.pv (.bool true))))) (.t 15),none,[4,8]⟩,
⟨some 17,17,.mv (.t 16),none,[9,4]⟩,
⟨some 18,18,.fld 1 (.t 1),(some (17,false)),[10]⟩,
⟨some 19,19,.load false 1 (.t 18),(some (17,false)),[11,10]⟩,
⟨some 20,20,.len (.t 19),(some (17,false)),[12,10]⟩,
⟨some 21,21,.bin false .gtr (.t 20) (.k (.c (.s (.pv (.int .i64 200))))),(some (17,false)),[13,10]⟩,
⟨some 22,22,.pick (.t 17) (.k (.c (.s (.pv (.bool true))))) (.t 21),none,[10,14]⟩])
(.cond (.t 22) (.seq (.reg [⟨some 2,2,.mv (.k (.c (.s (.pv (.bool false))))),none,[]⟩])
.ret) .skip))
(.seq (.seq (.reg [⟨some 23,23,.fld 0 (.t 1),none,[]⟩,
⟨some 24,24,.load false 1 (.t 23),none,[0]⟩,
⟨some 25,25,.len (.t 24),none,[1]⟩,
⟨some 26,26,.mv (.k (.c (.s (.pv (.int .i64 0))))),none,[]⟩])
(.block 0 (.loop (.seq (.reg [⟨some 27,27,.bin false .lss (.t 26) (.t 25),none,[]⟩])
(.seq (.cond (.t 27) .skip (.exit 0))
(.seq (.block 1 (.seq (.reg [⟨some 28,28,.idx 1 (.t 24) (.t 26),none,[]⟩,
⟨some 29,29,.load false 1 (.t 28),none,[0]⟩,
⟨some 4,4,.mv (.t 29),none,[1,0,1]⟩])
(.seq (.reg [⟨some 30,30,.mv (.t 4),none,[]⟩,
⟨some 31,31,.slen (.t 30),none,[0]⟩,
⟨some 32,32,.bin false .neq (.t 31) (.k (.c (.s (.pv (.int .i64 16))))),none,[1]⟩])
(.cond (.t 32) (.seq (.reg [⟨some 2,2,.mv (.k (.c (.s (.pv (.bool false))))),none,[]⟩])
.ret) .skip))))
(.reg [⟨some 33,33,.bin false .add (.t 26) (.k (.c (.s (.pv (.int .i64 1))))),none,[]⟩,
⟨some 26,26,.mv (.t 33),none,[0]⟩])))))))
(.seq (.seq (.reg [⟨some 34,34,.fld 1 (.t 1),none,[]⟩,
⟨some 35,35,.load false 1 (.t 34),none,[0]⟩,
⟨some 36,36,.len (.t 35),none,[1]⟩,
⟨some 37,37,.mv (.k (.c (.s (.pv (.int .i64 0))))),none,[]⟩])
(.block 2 (.loop (.seq (.reg [⟨some 38,38,.bin false .lss (.t 37) (.t 36),none,[]⟩])
(.seq (.cond (.t 38) .skip (.exit 2))
(.seq (.block 3 (.seq (.reg [⟨some 39,39,.idx 2 (.t 35) (.t 37),none,[]⟩,
⟨some 40,40,.load true 2 (.t 39),none,[0]⟩,
⟨some 6,6,.mk 120 2 [[.s (.pv (.int .i64 0)),.s (.pv (.string ⟨#[]⟩))]],none,[]⟩,
⟨none,49,.store 2 (.t 6) (.t 40),none,[2,1,0,1,2]⟩])
(.seq (.reg [⟨some 41,41,.load true 2 (.t 1),none,[]⟩,
⟨some 42,42,.load true 2 (.t 6),none,[]⟩,
⟨some 43,43,.call 94 [.t 41,.t 42],none,[0,1]⟩,
⟨some 44,44,.not (.t 43),none,[2]⟩])
(.cond (.t 44) (.seq (.reg [⟨some 2,2,.mv (.k (.c (.s (.pv (.bool false))))),none,[]⟩])
.ret) .skip))))
(.reg [⟨some 45,45,.bin false .add (.t 37) (.k (.c (.s (.pv (.int .i64 1))))),none,[]⟩,
⟨some 37,37,.mv (.t 45),none,[0]⟩])))))))
(.seq (.reg [⟨some 2,2,.mv (.k (.c (.s (.pv (.bool true))))),none,[]⟩])
.ret)))))
theorem fn92 : FnIs Tryz.prog 92 ac92 [.t 2] 46 := ⟨Tryz.f92,Tryz.func92,by kernel_rfl,by kernel_rfl,by kernel_rfl⟩
def ac93 : ACode := (.seq (.reg [⟨some 2,2,.box 38 2 (.t 0),none,[]⟩,
⟨some 4,4,.mk 38 2 [[.zc,.zc]],none,[]⟩])
(.seq (.reg [⟨some 8,8,.fld 0 (.t 2),none,[]⟩,
⟨some 9,9,.load false 1 (.t 8),none,[0]⟩,
⟨some 10,10,.call 130 [.t 9],none,[1]⟩,
⟨some 5,5,.mv (.t 10),none,[2,2,0,1,2]⟩])
(.seq (.seq (.reg [⟨some 11,11,.mv (.t 1),none,[]⟩,
⟨some 12,12,.len (.t 11),none,[0]⟩,
⟨some 13,13,.mv (.k (.c (.s (.pv (.int .i64 0))))),none,[]⟩])
(.block 0 (.loop (.seq (.reg [⟨some 14,14,.bin false .lss (.t 13) (.t 12),none,[]⟩])
(.seq (.cond (.t 14) .skip (.exit 0))
(.seq (.block 1 (.seq (.reg [⟨some 15,15,.idx 2 (.t 11) (.t 13),none,[]⟩,
⟨some 16,16,.load true 2 (.t 15),none,[0]⟩,
⟨some 7,7,.mk 120 2 [[.s (.pv (.int .i64 0)),.s (.pv (.string ⟨#[]⟩))]],none,[]⟩,
⟨none,29,.store 2 (.t 7) (.t 16),none,[2,1,0,1,2]⟩])
(.reg [⟨some 17,17,.mv (.t 5),none,[]⟩,
⟨some 18,18,.fld 0 (.t 7),none,[]⟩,
⟨some 19,19,.load false 1 (.t 18),none,[1]⟩,
⟨some 20,20,.fld 1 (.t 7),none,[]⟩,
⟨some 21,21,.load false 1 (.t 20),none,[3]⟩,
⟨some 22,22,.idx 1 (.t 17) (.t 19),none,[0,2,0,1,2,3,4]⟩,
⟨none,32,.store 1 (.t 22) (.t 21),none,[5,4,0,1,2,3,4]⟩])))
(.reg [⟨some 23,23,.bin false .add (.t 13) (.k (.c (.s (.pv (.int .i64 1))))),none,[]⟩,
⟨some 13,13,.mv (.t 23),none,[0]⟩])))))))
(.seq (.reg [⟨some 24,24,.mv (.t 5),none,[]⟩,
⟨some 25,25,.build [.zc,.zc] [(0,1,(.t 24))],none,[0]⟩,
⟨none,28,.store 2 (.t 4) (.t 25),none,[1,0,1]⟩])
.ret))))
theorem fn93 : FnIs Tryz.prog 93 ac93 [.cell 4 true 2] 26 := ⟨Tryz.f93,Tryz.func93,by kernel_rfl,by kernel_rfl,by kernel_rfl⟩
def ac94 : ACode := (.seq (.reg [⟨some 2,2,.box 38 2 (.t 0),none,[]⟩,
⟨some 3,3,.box 120 2 (.t 1),none,[]⟩,
⟨some 4,4,.mv (.k (.c (.s (.pv (.bool false))))),none,[]⟩])
(.seq (.reg [⟨some 5,5,.load true 2 (.t 2),none,[]⟩,
⟨some 6,6,.fld 0 (.t 3),none,[]⟩,
⟨some 7,7,.load false 1 (.t 6),none,[1]⟩,
⟨some 8,8,.call 131 [.t 5,.t 7],none,[0,2]⟩,
⟨some 9,9,.mv (.t 8),none,[3,3]⟩,
⟨some 10,10,.fld 1 (.t 3),(some (9,true)),[4]⟩,
⟨some 11,11,.load false 1 (.t 10),(some (9,true)),[5,4]⟩,
⟨some 12,12,.slen (.t 11),(some (9,true)),[6,4]⟩,
⟨some 13,13,.bin false .eql (.t 12) (.k (.c (.s (.pv (.int .i64 16))))),(some (9,true)),[7,4]⟩,
⟨some 14,14,.pick (.t 9) (.t 13) (.k (.c (.s (.pv (.bool false))))),none,[4,8]⟩,
⟨some 4,4,.mv (.t 14),none,[9,4,0,1,2,3,4,5,6,7,8,9]⟩])
.ret))
theorem fn94 : FnIs Tryz.prog 94 ac94 [.t 4] 15 := ⟨Tryz.f94,Tryz.func94,by kernel_rfl,by kernel_rfl,by kernel_rfl⟩
def ac95 : ACode := (.seq (.reg [⟨some 2,2,.mv (.k (.c .zc)),none,[]⟩])
(.seq (.seq (.reg [⟨some 3,3,.mv (.t 0),none,[]⟩,
⟨some 4,4,.isnil (.t 3),none,[0]⟩])
(.cond (.t 4) (.seq (.reg [⟨some 2,2,.mv (.k (.c .zc)),none,[]⟩])
.ret) .skip))
(.seq (.reg [⟨some 5,5,.bslice 120 2 [.s (.pv (.int .i64 0)),.s (.pv (.string ⟨#[]⟩))] 0 [],none,[]⟩,
⟨some 6,6,.mv (.t 0),none,[]⟩,
⟨some 7,7,.app 120 2 24 (.t 5) (.t 6),none,[0,1]⟩,
⟨some 2,2,.mv (.t 7),none,[2,2,0,1,2]⟩])
.ret)))
theorem fn95 : FnIs Tryz.prog 95 ac95 [.t 2] 8 := ⟨Tryz.f95,Tryz.func95,by kernel_rfl,by kernel_rfl,by kernel_rfl⟩
def ac97 : ACode := (.seq (.reg [⟨some 1,1,.box 38 2 (.t 0),none,[]⟩,
⟨some 2,2,.mv (.k (.c (.s (.pv (.bool false))))),none,[]⟩])
(.seq (.reg [⟨some 3,3,.load true 2 (.t 1),none,[]⟩,
⟨some 4,4,.call 92 [.t 3],none,[0]⟩,
⟨some 5,5,.mv (.t 4),none,[1,1]⟩,
⟨some 6,6,.fld 0 (.t 1),(some (5,true)),[2]⟩,
⟨some 7,7,.load false 1 (.t 6),(some (5,true)),[3,2]⟩,
⟨some 8,8,.len (.t 7),(some (5,true)),[4,2]⟩,
⟨some 9,9,.bin false .geq (.t 8) (.k (.c (.s (.pv (.int .i64 35))))),(some (5,true)),[5,2]⟩,
⟨some 10,10,.pick (.t 5) (.t 9) (.k (.c (.s (.pv (.bool false))))),none,[2,6]⟩,
⟨some 2,2,.mv (.t 10),none,[7,2,0,1,2,3,4,5,6,7]⟩])
.ret))
theorem fn97 : FnIs Tryz.prog 97 ac97 [.t 2] 11 := ⟨Tryz.f97,Tryz.func97,by kernel_rfl,by kernel_rfl,by kernel_rfl⟩
def ac98 : ACode := (.seq (.reg [⟨some 2,2,.mv (.k (.c (.s (.pv (.bool false))))),none,[]⟩])
(.seq (.reg [⟨some 3,3,.mv (.t 0),none,[]⟩,
⟨some 4,4,.bin false .geq (.t 3) (.k (.c (.s (.pv (.int .i64 1))))),none,[0]⟩,
⟨some 5,5,.mv (.t 4),none,[1]⟩,
⟨some 6,6,.mv (.t 0),(some (5,true)),[2]⟩,
⟨some 7,7,.bin false .leq (.t 6) (.k (.c (.s (.pv (.int .i64 16))))),(some (5,true)),[3,2]⟩,
⟨some 8,8,.pick (.t 5) (.t 7) (.k (.c (.s (.pv (.bool false))))),none,[2,4]⟩,
⟨some 2,2,.mv (.t 8),none,[5,2,0,1,2,3,4,5]⟩])
.ret))
theorem fn98 : FnIs Tryz.prog 98 ac98 [.t 2] 9 := ⟨Tryz.f98,Tryz.func98,by kernel_rfl,by kernel_rfl,by kernel_rfl⟩
def ac100 : ACode := (.seq (.reg [⟨some 2,2,.mv (.k (.c (.s (.pv (.int .i64 0))))),none,[]⟩])
(.seq (.reg [⟨some 3,3,.mv (.t 0),none,[]⟩,
⟨some 4,4,.bin false .mul (.k (.c (.s (.pv (.int .i64 2))))) (.t 3),none,[0]⟩,
⟨some 5,5,.bin false .add (.t 4) (.k (.c (.s (.pv (.int .i64 1))))),none,[1]⟩,
⟨some 2,2,.mv (.t 5),none,[2,0,1,2]⟩])
.ret))
theorem fn100 : FnIs Tryz.prog 100 ac100 [.t 2] 6 := ⟨Tryz.f100,Tryz.func100,by kernel_rfl,by kernel_rfl,by kernel_rfl⟩
def ac102 : ACode := (.seq (.reg [⟨some 2,2,.mv (.k (.c (.s (.pv (.int .i64 0))))),none,[]⟩,
⟨some 3,3,.mv (.k (.c (.s (.pv (.bool false))))),none,[0]⟩])
(.seq (.reg [⟨some 5,5,.mv (.t 0),none,[]⟩,
⟨some 6,6,.sidx (.t 5) (.k (.c (.s (.pv (.int .i64 1))))),none,[0]⟩,
⟨some 7,7,.conv .i64 (.t 6),none,[1]⟩,
⟨some 4,4,.mv (.t 7),none,[2,0,1,2]⟩])
(.seq (.seq (.reg [⟨some 8,8,.mv (.t 4),none,[]⟩,
⟨some 9,9,.call 98 [.t 8],none,[0]⟩,
⟨some 10,10,.not (.t 9),none,[1]⟩,
⟨some 11,11,.mv (.t 10),none,[2,1]⟩,
⟨some 12,12,.mv (.t 0),(some (11,false)),[3]⟩,
⟨some 13,13,.mv (.t 4),(some (11,false)),[3]⟩,
⟨some 14,14,.call 133 [.t 13],(some (11,false)),[5,3,3]⟩,
⟨some 15,15,.bin false .neq (.t 12) (.t 14),(some (11,false)),[4,6,3]⟩,
⟨some 16,16,.pick (.t 11) (.k (.c (.s (.pv (.bool true))))) (.t 15),none,[3,7]⟩])
(.cond (.t 16) (.seq (.reg [⟨some 2,2,.mv (.k (.c (.s (.pv (.int .i64 0))))),none,[]⟩,
⟨some 3,3,.mv (.k (.c (.s (.pv (.bool false))))),none,[0,0]⟩])
.ret) .skip))
(.seq (.reg [⟨some 17,17,.mv (.t 4),none,[]⟩,
⟨some 2,2,.mv (.t 17),none,[0,0]⟩,
⟨some 3,3,.mv (.k (.c (.s (.pv (.bool true))))),none,[1,0,1]⟩])
.ret))))
theorem fn102 : FnIs Tryz.prog 102 ac102 [.t 2,.t 3] 18 := ⟨Tryz.f102,Tryz.func102,by kernel_rfl,by kernel_rfl,by kernel_rfl⟩
def ac103 : ACode := (.seq (.reg [⟨some 4,4,.mk 122 3 [[.s (.pv (.bool false)),.s (.pv (.int .i64 0)),.s (.pv (.string ⟨#[]⟩))]],none,[]⟩])
(.seq (.reg [⟨some 5,5,.mv (.t 0),none,[]⟩,
⟨some 6,6,.mv (.t 1),none,[]⟩,
⟨some 7,7,.build [.s (.pv (.int .i64 0)),.s (.pv (.string ⟨#[]⟩))] [(0,1,(.t 5)),(1,1,(.t 6))],none,[0,1]⟩,
⟨some 8,8,.build [.s (.pv (.bool false)),.s (.pv (.int .i64 0)),.s (.pv (.string ⟨#[]⟩))] [(1,2,(.t 7))],none,[2]⟩,
⟨none,13,.store 3 (.t 4) (.t 8),none,[3,0,1,2,3]⟩])
.ret))
theorem fn103 : FnIs Tryz.prog 103 ac103 [.cell 4 true 3] 9 := ⟨Tryz.f103,Tryz.func103,by kernel_rfl,by kernel_rfl,by kernel_rfl⟩
def ac104 : ACode := (.seq (.reg [⟨some 0,0,.mk 122 3 [[.s (.pv (.bool false)),.s (.pv (.int .i64 0)),.s (.pv (.string ⟨#[]⟩))]],none,[]⟩])
(.seq (.reg [⟨some 1,1,.build [.s (.pv (.bool false)),.s (.pv (.int .i64 0)),.s (.pv (.string ⟨#[]⟩))] [(0,1,(.k (.c (.s (.pv (.bool true))))))],none,[]⟩,
⟨none,3,.store 3 (.t 0) (.t 1),none,[0,0]⟩])
.ret))
theorem fn104 : FnIs Tryz.prog 104 ac104 [.cell 0 true 3] 2 := ⟨Tryz.f104,Tryz.func104,by kernel_rfl,by kernel_rfl,by kernel_rfl⟩
def ac116 : ACode := (.seq (.reg [⟨some 2,2,.box 38 2 (.t 0),none,[]⟩,
⟨some 4,4,.mk 42 3 [[.s (.pv (.int .i64 0)),.s (.pv (.int .i64 0)),.s (.pv (.string ⟨#[]⟩))]],none,[]⟩,
⟨some 5,5,.mv (.k (.c (.s (.pv (.int .i64 0))))),none,[]⟩])
(.seq (.reg [⟨some 10,10,.load true 2 (.t 2),none,[]⟩,
⟨some 11,11,.mv (.t 1),none,[]⟩,
⟨some 12,12,.call 53 [.t 10,.t 11],none,[0,1]⟩,
⟨some 9,9,.mv (.t 12),none,[2]⟩,
⟨some 13,13,.ext 0 (.t 9),none,[3]⟩,
⟨some 14,14,.ext 1 (.t 9),none,[3]⟩,
⟨some 6,6,.mv (.t 13),none,[4,2,0,1,2,3,4]⟩,
⟨some 7,7,.mv (.t 14),none,[5,6,0,1,2,3,4,5,6]⟩])
(.seq (.seq (.reg [⟨some 15,15,.mv (.t 7),none,[]⟩,
⟨some 16,16,.bin false .neq (.t 15) (.k (.c (.s (.pv (.int .i64 0))))),none,[0]⟩])
(.cond (.t 16) (.seq (.reg [⟨some 17,17,.build [.s (.pv (.int .i64 0)),.s (.pv (.int .i64 0)),.s (.pv (.string ⟨#[]⟩))] [],none,[]⟩,
⟨some 18,18,.mv (.t 7),none,[]⟩,
⟨none,36,.store 3 (.t 4) (.t 17),none,[0,0]⟩,
⟨some 5,5,.mv (.t 18),none,[1,2,0,1,2]⟩])
.ret) .skip))
(.seq (.reg [⟨some 20,20,.mv (.t 6),none,[]⟩,
⟨some 21,21,.call 142 [.t 20],none,[0]⟩,
⟨some 19,19,.mv (.t 21),none,[1]⟩,
⟨some 22,22,.ext 0 (.t 19),none,[2]⟩,
⟨some 23,23,.ext 1 (.t 19),none,[2]⟩,
⟨some 8,8,.mk 42 3 [[.s (.pv (.int .i64 0)),.s (.pv (.int .i64 0)),.s (.pv (.string ⟨#[]⟩))]],none,[]⟩,
⟨none,40,.store 3 (.t 8) (.t 22),none,[5,3,1,0,1,2,3,5]⟩,
⟨some 7,7,.mv (.t 23),none,[4,6,0,1,2,3,4,5,6]⟩])
(.seq (.seq (.reg [⟨some 24,24,.mv (.t 7),none,[]⟩,
⟨some 25,25,.bin false .neq (.t 24) (.k (.c (.s (.pv (.int .i64 0))))),none,[0]⟩])
(.cond (.t 25) (.seq (.reg [⟨some 26,26,.build [.s (.pv (.int .i64 0)),.s (.pv (.int .i64 0)),.s (.pv (.string ⟨#[]⟩))] [],none,[]⟩,
⟨some 27,27,.mv (.t 7),none,[]⟩,
⟨none,36,.store 3 (.t 4) (.t 26),none,[0,0]⟩,
⟨some 5,5,.mv (.t 27),none,[1,2,0,1,2]⟩])
.ret) .skip))
(.seq (.seq (.reg [⟨some 28,28,.fld 0 (.t 8),none,[]⟩,
⟨some 29,29,.load false 1 (.t 28),none,[0]⟩,
⟨some 30,30,.mv (.t 1),none,[]⟩,
⟨some 31,31,.bin false .neq (.t 29) (.t 30),none,[1,2]⟩])
(.cond (.t 31) (.seq (.reg [⟨some 32,32,.build [.s (.pv (.int .i64 0)),.s (.pv (.int .i64 0)),.s (.pv (.string ⟨#[]⟩))] [],none,[]⟩,
⟨none,35,.store 3 (.t 4) (.t 32),none,[0,0]⟩,
⟨some 5,5,.mv (.k (.c (.s (.pv (.int .i64 9))))),none,[1,0,1]⟩])
.ret) .skip))
(.seq (.reg [⟨some 33,33,.load true 3 (.t 8),none,[]⟩,
⟨none,35,.store 3 (.t 4) (.t 33),none,[0,0]⟩,
⟨some 5,5,.mv (.k (.c (.s (.pv (.int .i64 0))))),none,[1,0,1]⟩])
.ret)))))))
theorem fn116 : FnIs Tryz.prog 116 ac116 [.cell 4 true 3,.t 5] 34 := ⟨Tryz.f116,Tryz.func116,by kernel_rfl,by kernel_rfl,by kernel_rfl⟩
def ac130 : ACode := (.seq (.reg [⟨some 2,2,.mv (.k (.c .zc)),none,[]⟩])
(.seq (.seq (.reg [⟨some 3,3,.mv (.t 0),none,[]⟩,
⟨some 4,4,.isnil (.t 3),none,[0]⟩])
(.cond (.t 4) (.seq (.reg [⟨some 2,2,.mv (.k (.c .zc)),none,[]⟩])
.ret) .skip))
(.seq (.reg [⟨some 5,5,.bslice 9 1 [.s (.pv (.string ⟨#[]⟩))] 0 [],none,[]⟩,
⟨some 6,6,.mv (.t 0),none,[]⟩,
⟨some 7,7,.app 9 1 16 (.t 5) (.t 6),none,[0,1]⟩,
⟨some 2,2,.mv (.t 7),none,[2,2,0,1,2]⟩])
.ret)))
theorem fn130 : FnIs Tryz.prog 130 ac130 [.t 2] 8 := ⟨Tryz.f130,Tryz.func130,by kernel_rfl,by kernel_rfl,by kernel_rfl⟩
def ac131 : ACode := (.seq (.reg [⟨some 2,2,.box 38 2 (.t 0),none,[]⟩,
⟨some 4,4,.mv (.k (.c (.s (.pv (.bool false))))),none,[]⟩])
(.seq (.reg [⟨some 5,5,.mv (.t 1),none,[]⟩,
⟨some 6,6,.bin false .geq (.t 5) (.k (.c (.s (.pv (.int .i64 0))))),none,[0]⟩,
⟨some 7,7,.mv (.t 6),none,[1]⟩,
⟨some 8,8,.mv (.t 1),(some (7,true)),[2]⟩,
⟨some 9,9,.fld 0 (.t 2),(some (7,true)),[2]⟩,
⟨some 10,10,.load false 1 (.t 9),(some (7,true)),[4,2]⟩,
⟨some 11,11,.len (.t 10),(some (7,true)),[5,2]⟩,
⟨some 12,12,.bin false .lss (.t 8) (.t 11),(some (7,true)),[3,6,2]⟩,
⟨some 13,13,.pick (.t 7) (.t 12) (.k (.c (.s (.pv (.bool false))))),none,[2,7]⟩,
⟨some 4,4,.mv (.t 13),none,[8,2,0,1,2,3,4,5,6,7,8]⟩])
.ret))
theorem fn131 : FnIs Tryz.prog 131 ac131 [.t 4] 14 := ⟨Tryz.f131,Tryz.func131,by kernel_rfl,by kernel_rfl,by kernel_rfl⟩
def ac133 : ACode := (.seq (.reg [⟨some 2,2,.mv (.k (.c (.s (.pv (.string ⟨#[]⟩))))),none,[]⟩])
(.seq (.draw [⟨some 3,3,.mv (.t 0),none,[]⟩,
⟨some 4,4,.conv .u8 (.t 3),none,[0]⟩,
⟨some 5,5,.bslice 5 1 [.s (.pv (.int .u8 0))] 2 [(0,1,(.k (.c (.s (.pv (.int .u8 74)))))),(1,1,(.t 4))],none,[1]⟩,
⟨some 6,6,.b2s (.t 5),none,[2]⟩,
⟨some 7,7,.ssub (.k (.c (.s (.pv (.string ⟨#[0,0,0,0,0,0,0,0,0,0,0,0,0,0,0,0]⟩))))) (some (.k (.c (.s (.pv (.int .i64 2)))))) none,none,[]⟩,
⟨some 8,8,.bin false .add (.t 6) (.t 7),none,[3,4]⟩,
⟨some 2,2,.mv (.t 8),none,[5,0,1,2,3,4,5]⟩])
.ret))
theorem fn133 : FnIs Tryz.prog 133 ac133 [.t 2] 9 := ⟨Tryz.f133,Tryz.func133,by kernel_rfl,by kernel_rfl,by kernel_rfl⟩
def ac147 : ACode := (.seq (.reg [⟨some 2,2,.box 38 2 (.t 0),none,[]⟩,
⟨some 3,3,.box 42 3 (.t 1),none,[]⟩,
⟨some 4,4,.mv (.k (.c .zc)),none,[]⟩])
(.seq (.reg [⟨some 9,9,.call 175 [],none,[]⟩,
⟨some 5,5,.mv (.t 9),none,[0,0,0]⟩])
(.seq (.seq (.reg [⟨some 10,10,.fld 1 (.t 3),none,[]⟩,
⟨some 11,11,.load false 1 (.t 10),none,[0]⟩,
⟨some 12,12,.bin false .neq (.t 11) (.k (.c (.s (.pv (.int .i64 0))))),none,[1]⟩,
⟨some 13,13,.mv (.t 12),none,[2]⟩,
⟨some 14,14,.fld 2 (.t 3),(some (13,false)),[3]⟩,
⟨some 15,15,.load false 1 (.t 14),(some (13,false)),[4,3]⟩,
⟨some 16,16,.bin false .neq (.t 15) (.k (.c (.s (.pv (.string ⟨#[]⟩))))),(some (13,false)),[5,3]⟩,
⟨some 17,17,.pick (.t 13) (.k (.c (.s (.pv (.bool true))))) (.t 16),none,[3,6]⟩])
(.cond (.t 17) (.seq (.reg [⟨some 6,6,.mv (.k (.c (.s (.pv (.int .i64 0))))),none,[]⟩])
(.seq (.reg [⟨some 19,19,.load true 3 (.t 3),none,[]⟩,
⟨some 20,20,.call 168 [.t 19],none,[0]⟩,
⟨some 18,18,.mv (.t 20),none,[1]⟩,
⟨some 21,21,.ext 0 (.t 18),none,[2]⟩,
⟨some 22,22,.ext 1 (.t 18),none,[2]⟩,
⟨some 5,5,.mv (.t 21),none,[3,1,0,1,2,3]⟩,
⟨some 6,6,.mv (.t 22),none,[4,5,0,1,2,3,4,5]⟩])
(.seq (.reg [⟨some 23,23,.mv (.t 6),none,[]⟩,
⟨some 24,24,.bin false .neq (.t 23) (.k (.c (.s (.pv (.int .i64 0))))),none,[0]⟩])
(.cond (.t 24) (.seq (.reg [⟨some 4,4,.mv (.k (.c .zc)),none,[]⟩])
.ret) .skip)))) .skip))
(.seq (.reg [⟨some 26,26,.load true 2 (.t 2),none,[]⟩,
⟨some 27,27,.fld 0 (.t 3),none,[]⟩,
⟨some 28,28,.load false 1 (.t 27),none,[1]⟩,
⟨some 29,29,.mv (.t 5),none,[]⟩,
⟨some 30,30,.call 176 [.t 26,.t 28,.t 29],none,[0,2,3]⟩,
⟨some 25,25,.mv (.t 30),none,[4]⟩,
⟨some 31,31,.ext 0 (.t 25),none,[5]⟩,
⟨some 32,32,.ext 1 (.t 25),none,[5]⟩,
⟨some 7,7,.mv (.t 31),none,[6,4,0,1,2,3,4,5,6]⟩,
⟨some 8,8,.mv (.t 32),none,[7,8,0,1,2,3,4,5,6,7,8]⟩])
(.seq (.reg [⟨some 33,33,.mv (.t 7),none,[]⟩,
⟨some 4,4,.mv (.t 33),none,[0,0]⟩])
.ret)))))
theorem fn147 : FnIs Tryz.prog 147 ac147 [.t 4] 34 := ⟨Tryz.f147,Tryz.func147,by kernel_rfl,by kernel_rfl,by kernel_rfl⟩
def ac148 : ACode := (.seq (.reg [⟨some 2,2,.box 38 2 (.t 0),none,[]⟩,
⟨some 4,4,.mk 38 2 [[.zc,.zc]],none,[]⟩,
⟨some 5,5,.mv (.k (.c (.s (.pv (.int .i64 0))))),none,[]⟩])
(.seq (.draw [⟨some 6,6,.load true 2 (.t 2),none,[]⟩,
⟨some 7,7,.mv (.t 1),none,[]⟩,
⟨some 8,8,.call 175 [],none,[]⟩,
⟨some 9,9,.call 177 [.t 6,.t 7,.t 8],none,[0,1,2,2]⟩,
⟨some 10,10,.ext 0 (.t 9),none,[3]⟩,
⟨some 11,11,.ext 1 (.t 9),none,[3]⟩,
⟨none,18,.store 2 (.t 4) (.t 10),none,[4,3,0,1,2,3,4,5]⟩,
⟨some 5,5,.mv (.t 11),none,[5,6,0,1,2,3,4,5,6]⟩])
.ret))
theorem fn148 : FnIs Tryz.prog 148 ac148 [.cell 4 true 2,.t 5] 12 := ⟨Tryz.f148,Tryz.func148,by kernel_rfl,by kernel_rfl,by kernel_rfl⟩
def ac175 : ACode := (.seq (.reg [⟨some 0,0,.mv (.k (.c (.s (.pv (.string ⟨#[]⟩))))),none,[]⟩])
(.seq (.reg [⟨some 1,1,.call 67 [.k (.c (.s (.pv (.string ⟨#[0]⟩)))),.k (.c (.s (.pv (.int .i64 32))))],none,[]⟩,
⟨some 0,0,.mv (.t 1),none,[0,0,0]⟩])
.ret))
theorem fn175 : FnIs Tryz.prog 175 ac175 [.t 0] 2 := ⟨Tryz.f175,Tryz.func175,by kernel_rfl,by kernel_rfl,by kernel_rfl⟩
def ac176 : ACode := (.seq (.reg [⟨some 3,3,.box 38 2 (.t 0),none,[]⟩,
⟨some 6,6,.mv (.k (.c .zc)),none,[]⟩,
⟨some 7,7,.mv (.k (.c (.s (.pv (.int .i64 0))))),none,[1]⟩])
(.seq (.seq (.reg [⟨some 10,10,.load true 2 (.t 3),none,[]⟩,
⟨some 11,11,.call 97 [.t 10],none,[0]⟩,
⟨some 12,12,.not (.t 11),none,[1]⟩,
⟨some 13,13,.mv (.t 12),none,[2,1]⟩,
⟨some 14,14,.mv (.t 1),(some (13,false)),[3]⟩,
⟨some 15,15,.call 98 [.t 14],(some (13,false)),[4,3,3]⟩,
⟨some 16,16,.not (.t 15),(some (13,false)),[5,3]⟩,
⟨some 17,17,.pick (.t 13) (.k (.c (.s (.pv (.bool true))))) (.t 16),none,[3,6]⟩,
⟨some 18,18,.mv (.t 17),none,[7,5]⟩,
⟨some 19,19,.mv (.t 2),(some (18,false)),[8]⟩,
⟨some 20,20,.slen (.t 19),(some (18,false)),[9,8]⟩,
⟨some 21,21,.bin false .neq (.t 20) (.k (.c (.s (.pv (.int .i64 32))))),(some (18,false)),[10,8]⟩,
⟨some 22,22,.pick (.t 18) (.k (.c (.s (.pv (.bool true))))) (.t 21),none,[8,11]⟩])
(.cond (.t 22) (.seq (.reg [⟨some 6,6,.mv (.k (.c .zc)),none,[]⟩,
⟨some 7,7,.mv (.k (.c (.s (.pv (.int .i64 1))))),none,[0,0]⟩])
.ret) .skip))
(.seq (.draw [⟨some 23,23,.mv (.t 2),none,[]⟩,
⟨some 24,24,.ssub (.t 23) none (some (.k (.c (.s (.pv (.int .i64 16)))))),none,[0]⟩,
⟨some 25,25,.mv (.t 2),none,[]⟩,
⟨some 26,26,.ssub (.t 25) (some (.k (.c (.s (.pv (.int .i64 16)))))) none,none,[2]⟩,
⟨some 8,8,.mv (.t 24),none,[1,0,1]⟩,
⟨some 9,9,.mv (.t 26),none,[3,4,0,1,2,3,4]⟩])
(.seq (.reg [⟨some 27,27,.mv (.t 8),none,[]⟩,
⟨some 28,28,.call 103 [.k (.c (.s (.pv (.int .i64 1)))),.t 27],none,[0]⟩,
⟨some 29,29,.mv (.t 9),none,[]⟩,
⟨some 30,30,.call 103 [.k (.c (.s (.pv (.int .i64 2)))),.t 29],none,[2,1]⟩,
⟨some 31,31,.call 104 [],none,[3]⟩,
⟨some 32,32,.mv (.t 1),none,[]⟩,
⟨some 33,33,.call 133 [.t 32],none,[5,4]⟩,
⟨some 34,34,.call 103 [.k (.c (.s (.pv (.int .i64 0)))),.t 33],none,[6,6]⟩,
⟨some 35,35,.call 104 [],none,[7]⟩,
⟨some 36,36,.mv (.t 1),none,[]⟩,
⟨some 37,37,.call 100 [.t 36],none,[9,8]⟩,
⟨some 38,38,.mv (.t 8),none,[]⟩,
⟨some 39,39,.call 103 [.t 37,.t 38],none,[10,11,10]⟩,
⟨some 40,40,.mv (.t 1),none,[]⟩,
⟨some 41,41,.call 100 [.t 40],none,[13,12]⟩,
⟨some 42,42,.bin false .add (.t 41) (.k (.c (.s (.pv (.int .i64 1))))),none,[14]⟩,
⟨some 43,43,.mv (.t 9),none,[]⟩,
⟨some 44,44,.call 103 [.t 42,.t 43],none,[15,16,14]⟩,
⟨some 45,45,.call 104 [],none,[17]⟩,
⟨some 46,46,.call 103 [.k (.c (.s (.pv (.int .i64 0)))),.k (.c (.s (.pv (.string ⟨#[0,0,0,0,0,0,0,0,0,0,0,0,0,0,0,0]⟩))))],none,[18]⟩,
⟨some 47,47,.call 104 [],none,[19]⟩,
⟨some 48,48,.bslice 122 3 [.s (.pv (.bool false)),.s (.pv (.int .i64 0)),.s (.pv (.string ⟨#[]⟩))] 10 [(0,3,(.t 28)),(3,3,(.t 30)),(6,3,(.t 31)),(9,3,(.t 34)),(12,3,(.t 35)),(15,3,(.t 39)),(18,3,(.t 44)),(21,3,(.t 45)),(24,3,(.t 46)),(27,3,(.t 47))],none,[1,3,4,7,8,12,17,18,19,20]⟩,
⟨some 6,6,.mv (.t 48),none,[21,20,0,1,2,3,4,5,6,7,8,9,10,11,12,13,14,15,16,17,18,19,20,21]⟩,
⟨some 7,7,.mv (.k (.c (.s (.pv (.int .i64 0))))),none,[22,0,1,2,3,4,5,6,7,8,9,10,11,12,13,14,15,16,17,18,19,20,21,22]⟩])
.ret))))
theorem fn176 : FnIs Tryz.prog 176 ac176 [.t 6,.t 7] 49 := ⟨Tryz.f176,Tryz.func176,by kernel_rfl,by kernel_rfl,by kernel_rfl⟩
def ac177 : ACode := (.seq (.reg [⟨some 3,3,.box 38 2 (.t 0),none,[]⟩,
⟨some 6,6,.mk 38 2 [[.zc,.zc]],none,[]⟩,
⟨some 7,7,.mv (.k (.c (.s (.pv (.int .i64 0))))),none,[]⟩])
(.seq (.reg [⟨some 11,11,.load true 2 (.t 3),none,[]⟩,
⟨some 12,12,.mv (.t 1),none,[]⟩,
⟨some 13,13,.mv (.t 2),none,[]⟩,
⟨some 14,14,.call 176 [.t 11,.t 12,.t 13],none,[0,1,2]⟩,
⟨some 10,10,.mv (.t 14),none,[3]⟩,
⟨some 15,15,.ext 0 (.t 10),none,[4]⟩,
⟨some 16,16,.ext 1 (.t 10),none,[4]⟩,
⟨some 8,8,.mv (.t 15),none,[5,3,0,1,2,3,4,5]⟩,
⟨some 9,9,.mv (.t 16),none,[6,7,0,1,2,3,4,5,6,7]⟩])
(.seq (.reg [⟨some 17,17,.load true 2 (.t 3),none,[]⟩,
⟨some 18,18,.mv (.t 8),none,[]⟩,
⟨some 19,19,.mv (.t 8),none,[]⟩,
⟨some 20,20,.len (.t 19),none,[2]⟩,
⟨some 21,21,.call 23 [.t 17,.t 18,.t 20],none,[0,1,3]⟩,
⟨some 22,22,.mv (.t 9),none,[]⟩,
⟨none,29,.store 2 (.t 6) (.t 21),none,[4,4,0,1,2,3,4]⟩,
⟨some 7,7,.mv (.t 22),none,[5,6,0,1,2,3,4,5,6]⟩])
.ret)))
theorem fn177 : FnIs Tryz.prog 177 ac177 [.cell 6 true 2,.t 7] 23 := ⟨Tryz.f177,Tryz.func177,by kernel_rfl,by kernel_rfl,by kernel_rfl⟩
def ac178 : ACode := (.seq (.reg [⟨some 2,2,.box 38 2 (.t 0),none,[]⟩,
⟨some 3,3,.box 42 3 (.t 1),none,[]⟩,
⟨some 4,4,.mk 38 2 [[.zc,.zc]],none,[]⟩,
⟨some 5,5,.mv (.k (.c (.s (.pv (.int .i64 0))))),none,[]⟩])
(.seq (.reg [⟨some 9,9,.load true 3 (.t 3),none,[]⟩,
⟨some 10,10,.call 168 [.t 9],none,[0]⟩,
⟨some 8,8,.mv (.t 10),none,[1]⟩,
⟨some 11,11,.ext 0 (.t 8),none,[2]⟩,
⟨some 12,12,.ext 1 (.t 8),none,[2]⟩,
⟨some 6,6,.mv (.t 11),none,[3,1,0,1,2,3]⟩,
⟨some 7,7,.mv (.t 12),none,[4,5,0,1,2,3,4,5]⟩])
(.seq (.seq (.reg [⟨some 13,13,.mv (.t 7),none,[]⟩,
⟨some 14,14,.bin false .neq (.t 13) (.k (.c (.s (.pv (.int .i64 0))))),none,[0]⟩])
(.cond (.t 14) (.seq (.reg [⟨some 15,15,.load true 2 (.t 2),none,[]⟩,
⟨some 16,16,.mv (.t 7),none,[]⟩,
⟨none,26,.store 2 (.t 4) (.t 15),none,[0,0]⟩,
⟨some 5,5,.mv (.t 16),none,[1,2,0,1,2]⟩])
.ret) .skip))
(.seq (.reg [⟨some 17,17,.load true 2 (.t 2),none,[]⟩,
⟨some 18,18,.fld 0 (.t 3),none,[]⟩,
⟨some 19,19,.load false 1 (.t 18),none,[1]⟩,
⟨some 20,20,.mv (.t 6),none,[]⟩,
⟨some 21,21,.call 177 [.t 17,.t 19,.t 20],none,[0,2,3]⟩,
⟨some 22,22,.ext 0 (.t 21),none,[4]⟩,
⟨some 23,23,.ext 1 (.t 21),none,[4]⟩,
⟨none,31,.store 2 (.t 4) (.t 22),none,[5,4,0,1,2,3,4,5,6]⟩,
⟨some 5,5,.mv (.t 23),none,[6,7,0,1,2,3,4,5,6,7]⟩])
.ret))))
theorem fn178 : FnIs Tryz.prog 178 ac178 [.cell 4 true 2,.t 5] 24 := ⟨Tryz.f178,Tryz.func178,by kernel_rfl,by kernel_rfl,by kernel_rfl⟩
end Go.Proofs.YtcbfhpnmhhnjpaaGreat

