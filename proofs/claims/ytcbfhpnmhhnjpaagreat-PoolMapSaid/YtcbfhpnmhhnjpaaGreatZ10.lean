import Derived.Test.YtcbfhpnmhhnjpaaGreatZ9
set_option linter.unusedVariables false
set_option linter.unusedSimpArgs false
namespace Go.Proofs.YtcbfhpnmhhnjpaaGreat
set_option maxRecDepth 100000
def ac21 : ACode := (.seq (.reg [⟨some 1,1,.box 34 5 (.t 0),none,[]⟩,
⟨some 2,2,.mv (.k (.c (.s (.pv (.bool false))))),none,[]⟩])
(.seq (.seq (.reg [⟨some 10,10,.fld 0 (.t 1),none,[]⟩,
⟨some 11,11,.load true 2 (.t 10),none,[0]⟩,
⟨some 12,12,.call 43 [.t 11],none,[1]⟩,
⟨some 13,13,.not (.t 12),none,[2]⟩,
⟨some 14,14,.mv (.t 13),none,[3,2]⟩,
⟨some 15,15,.fld 2 (.t 1),(some (14,false)),[4]⟩,
⟨some 16,16,.load true 1 (.t 15),(some (14,false)),[5,4]⟩,
⟨some 17,17,.call 44 [.t 16],(some (14,false)),[6,4,4]⟩,
⟨some 18,18,.not (.t 17),(some (14,false)),[7,4]⟩,
⟨some 19,19,.pick (.t 14) (.k (.c (.s (.pv (.bool true))))) (.t 18),none,[4,8]⟩,
⟨some 20,20,.mv (.t 19),none,[9,7]⟩,
⟨some 21,21,.fld 4 (.t 1),(some (20,false)),[10]⟩,
⟨some 22,22,.load false 1 (.t 21),(some (20,false)),[11,10]⟩,
⟨some 23,23,.call 45 [.t 22],(some (20,false)),[12,10,10]⟩,
⟨some 24,24,.not (.t 23),(some (20,false)),[13,10]⟩,
⟨some 25,25,.pick (.t 20) (.k (.c (.s (.pv (.bool true))))) (.t 24),none,[10,14]⟩,
⟨some 26,26,.mv (.t 25),none,[15,13]⟩,
⟨some 27,27,.fld 3 (.t 1),(some (26,false)),[16]⟩,
⟨some 28,28,.load false 1 (.t 27),(some (26,false)),[17,16]⟩,
⟨some 29,29,.len (.t 28),(some (26,false)),[18,16]⟩,
⟨some 30,30,.fld 0 (.t 1),(some (26,false)),[16]⟩,
⟨some 31,31,.fld 0 (.t 30),(some (26,false)),[20,16]⟩,
⟨some 32,32,.load false 1 (.t 31),(some (26,false)),[21,16]⟩,
⟨some 33,33,.len (.t 32),(some (26,false)),[22,16]⟩,
⟨some 34,34,.bin false .neq (.t 29) (.t 33),(some (26,false)),[19,23,16]⟩,
⟨some 35,35,.pick (.t 26) (.k (.c (.s (.pv (.bool true))))) (.t 34),none,[16,24]⟩])
(.cond (.t 35) (.seq (.reg [⟨some 2,2,.mv (.k (.c (.s (.pv (.bool false))))),none,[]⟩])
.ret) .skip))
(.seq (.reg [⟨some 3,3,.mv (.k (.c (.s (.pv (.int .i64 0))))),none,[]⟩])
(.seq (.seq (.reg [⟨some 36,36,.fld 3 (.t 1),none,[]⟩,
⟨some 37,37,.load false 1 (.t 36),none,[0]⟩,
⟨some 38,38,.len (.t 37),none,[1]⟩,
⟨some 39,39,.mv (.k (.c (.s (.pv (.int .i64 0))))),none,[]⟩])
(.block 0 (.loop (.seq (.reg [⟨some 40,40,.bin false .lss (.t 39) (.t 38),none,[]⟩])
(.seq (.cond (.t 40) .skip (.exit 0))
(.seq (.block 1 (.seq (.reg [⟨some 41,41,.mv (.t 39),none,[]⟩,
⟨some 42,42,.idx 3 (.t 37) (.t 39),none,[]⟩,
⟨some 43,43,.load true 3 (.t 42),none,[1]⟩,
⟨some 5,5,.mk 42 3 [[.s (.pv (.int .i64 0)),.s (.pv (.int .i64 0)),.s (.pv (.string ⟨#[]⟩))]],none,[]⟩,
⟨some 4,4,.mv (.t 41),none,[0,0,1,2,3]⟩,
⟨none,83,.store 3 (.t 5) (.t 43),none,[3,2,4,0,1,2,3,4]⟩])
(.seq (.seq (.reg [⟨some 44,44,.load true 5 (.t 1),none,[]⟩,
⟨some 45,45,.mv (.t 4),none,[]⟩,
⟨some 46,46,.call 46 [.t 44,.t 45],none,[0,1]⟩,
⟨some 47,47,.not (.t 46),none,[2]⟩])
(.cond (.t 47) (.seq (.reg [⟨some 2,2,.mv (.k (.c (.s (.pv (.bool false))))),none,[]⟩])
.ret) .skip))
(.seq (.reg [⟨some 48,48,.fld 0 (.t 5),none,[]⟩,
⟨some 49,49,.load false 1 (.t 48),none,[0]⟩,
⟨some 50,50,.bin false .neq (.t 49) (.k (.c (.s (.pv (.int .i64 0))))),none,[1]⟩])
(.cond (.t 50) (.reg [⟨some 51,51,.mv (.t 3),none,[]⟩,
⟨some 52,52,.bin false .add (.t 51) (.k (.c (.s (.pv (.int .i64 1))))),none,[0]⟩,
⟨some 3,3,.mv (.t 52),none,[1,0,1]⟩]) .skip)))))
(.reg [⟨some 53,53,.bin false .add (.t 39) (.k (.c (.s (.pv (.int .i64 1))))),none,[]⟩,
⟨some 39,39,.mv (.t 53),none,[0]⟩])))))))
(.seq (.seq (.reg [⟨some 54,54,.fld 2 (.t 1),none,[]⟩,
⟨some 55,55,.load true 1 (.t 54),none,[0]⟩,
⟨some 56,56,.call 47 [.t 55],none,[1]⟩,
⟨some 57,57,.len (.t 56),none,[2]⟩,
⟨some 58,58,.mv (.t 3),none,[]⟩,
⟨some 59,59,.bin false .neq (.t 57) (.t 58),none,[3,4]⟩])
(.cond (.t 59) (.seq (.reg [⟨some 2,2,.mv (.k (.c (.s (.pv (.bool false))))),none,[]⟩])
.ret) .skip))
(.seq (.seq (.reg [⟨some 60,60,.fld 4 (.t 1),none,[]⟩,
⟨some 61,61,.load false 1 (.t 60),none,[0]⟩,
⟨some 62,62,.len (.t 61),none,[1]⟩,
⟨some 63,63,.mv (.k (.c (.s (.pv (.int .i64 0))))),none,[]⟩])
(.block 2 (.loop (.seq (.reg [⟨some 64,64,.bin false .lss (.t 63) (.t 62),none,[]⟩])
(.seq (.cond (.t 64) .skip (.exit 2))
(.seq (.block 3 (.seq (.reg [⟨some 65,65,.idx 2 (.t 61) (.t 63),none,[]⟩,
⟨some 66,66,.load true 2 (.t 65),none,[0]⟩,
⟨some 7,7,.mk 64 2 [[.s (.pv (.int .i64 0)),.s (.pv (.int .i64 0))]],none,[]⟩,
⟨none,81,.store 2 (.t 7) (.t 66),none,[2,1,0,1,2]⟩])
(.seq (.reg [⟨some 68,68,.fld 2 (.t 1),none,[]⟩,
⟨some 69,69,.load true 1 (.t 68),none,[0]⟩,
⟨some 70,70,.fld 0 (.t 7),none,[]⟩,
⟨some 71,71,.load false 1 (.t 70),none,[2]⟩,
⟨some 72,72,.call 48 [.t 69,.t 71],none,[1,3]⟩,
⟨some 67,67,.mv (.t 72),none,[4]⟩,
⟨some 73,73,.ext 0 (.t 67),none,[5]⟩,
⟨some 74,74,.ext 1 (.t 67),none,[5]⟩,
⟨some 8,8,.mv (.t 73),none,[6,4,0,1,2,3,4,5,6]⟩,
⟨some 9,9,.mv (.t 74),none,[7,8,0,1,2,3,4,5,6,7,8]⟩])
(.seq (.reg [⟨some 75,75,.mv (.t 9),none,[]⟩,
⟨some 76,76,.not (.t 75),none,[0]⟩])
(.cond (.t 76) (.seq (.reg [⟨some 2,2,.mv (.k (.c (.s (.pv (.bool false))))),none,[]⟩])
.ret) .skip)))))
(.reg [⟨some 77,77,.bin false .add (.t 63) (.k (.c (.s (.pv (.int .i64 1))))),none,[]⟩,
⟨some 63,63,.mv (.t 77),none,[0]⟩])))))))
(.seq (.reg [⟨some 2,2,.mv (.k (.c (.s (.pv (.bool true))))),none,[]⟩])
.ret)))))))
theorem fn21 : FnIs Tryz.prog 21 ac21 [.t 2] 78 := ⟨Tryz.f21,Tryz.func21,by kernel_rfl,by kernel_rfl,by kernel_rfl⟩
def ac43 : ACode := (.seq (.reg [⟨some 1,1,.box 28 2 (.t 0),none,[]⟩,
⟨some 2,2,.mv (.k (.c (.s (.pv (.bool false))))),none,[]⟩])
(.seq (.seq (.reg [⟨some 5,5,.fld 0 (.t 1),none,[]⟩,
⟨some 6,6,.load false 1 (.t 5),none,[0]⟩,
⟨some 7,7,.len (.t 6),none,[1]⟩,
⟨some 8,8,.bin false .gtr (.t 7) (.k (.c (.s (.pv (.int .i64 8))))),none,[2]⟩,
⟨some 9,9,.mv (.t 8),none,[3]⟩,
⟨some 10,10,.load true 2 (.t 1),(some (9,false)),[4]⟩,
⟨some 11,11,.fld 1 (.t 1),(some (9,false)),[4]⟩,
⟨some 12,12,.load false 1 (.t 11),(some (9,false)),[6,4]⟩,
⟨some 13,13,.call 82 [.t 10,.t 12],(some (9,false)),[5,7,4,4]⟩,
⟨some 14,14,.not (.t 13),(some (9,false)),[8,4]⟩,
⟨some 15,15,.pick (.t 9) (.k (.c (.s (.pv (.bool true))))) (.t 14),none,[4,9]⟩])
(.cond (.t 15) (.seq (.reg [⟨some 2,2,.mv (.k (.c (.s (.pv (.bool false))))),none,[]⟩])
.ret) .skip))
(.seq (.seq (.reg [⟨some 16,16,.fld 0 (.t 1),none,[]⟩,
⟨some 17,17,.load false 1 (.t 16),none,[0]⟩,
⟨some 18,18,.len (.t 17),none,[1]⟩,
⟨some 19,19,.mv (.k (.c (.s (.pv (.int .i64 0))))),none,[]⟩])
(.block 0 (.loop (.seq (.reg [⟨some 20,20,.bin false .lss (.t 19) (.t 18),none,[]⟩])
(.seq (.cond (.t 20) .skip (.exit 0))
(.seq (.block 1 (.seq (.reg [⟨some 21,21,.idx 3 (.t 17) (.t 19),none,[]⟩,
⟨some 22,22,.load true 3 (.t 21),none,[0]⟩,
⟨some 4,4,.mk 153 3 [[.s (.pv (.int .i64 0)),.s (.pv (.int .i64 0)),.s (.pv (.bool false))]],none,[]⟩,
⟨none,45,.store 3 (.t 4) (.t 22),none,[2,1,0,1,2]⟩])
(.seq (.reg [⟨some 23,23,.fld 0 (.t 4),none,[]⟩,
⟨some 24,24,.load false 1 (.t 23),none,[0]⟩,
⟨some 25,25,.bin false .lss (.t 24) (.k (.c (.s (.pv (.int .i64 0))))),none,[1]⟩,
⟨some 26,26,.mv (.t 25),none,[2]⟩,
⟨some 27,27,.fld 0 (.t 4),(some (26,false)),[3]⟩,
⟨some 28,28,.load false 1 (.t 27),(some (26,false)),[4,3]⟩,
⟨some 29,29,.bin false .gtr (.t 28) (.k (.c (.s (.pv (.int .i64 16))))),(some (26,false)),[5,3]⟩,
⟨some 30,30,.pick (.t 26) (.k (.c (.s (.pv (.bool true))))) (.t 29),none,[3,6]⟩,
⟨some 31,31,.mv (.t 30),none,[7,3]⟩,
⟨some 32,32,.fld 1 (.t 4),(some (31,false)),[8]⟩,
⟨some 33,33,.load false 1 (.t 32),(some (31,false)),[9,8]⟩,
⟨some 34,34,.bin false .lss (.t 33) (.k (.c (.s (.pv (.int .i64 0))))),(some (31,false)),[10,8]⟩,
⟨some 35,35,.pick (.t 31) (.k (.c (.s (.pv (.bool true))))) (.t 34),none,[8,11]⟩,
⟨some 36,36,.mv (.t 35),none,[12,8]⟩,
⟨some 37,37,.fld 1 (.t 4),(some (36,false)),[13]⟩,
⟨some 38,38,.load false 1 (.t 37),(some (36,false)),[14,13]⟩,
⟨some 39,39,.bin false .gtr (.t 38) (.k (.c (.s (.pv (.int .i64 2147483647))))),(some (36,false)),[15,13]⟩,
⟨some 40,40,.pick (.t 36) (.k (.c (.s (.pv (.bool true))))) (.t 39),none,[13,16]⟩])
(.cond (.t 40) (.seq (.reg [⟨some 2,2,.mv (.k (.c (.s (.pv (.bool false))))),none,[]⟩])
.ret) .skip))))
(.reg [⟨some 41,41,.bin false .add (.t 19) (.k (.c (.s (.pv (.int .i64 1))))),none,[]⟩,
⟨some 19,19,.mv (.t 41),none,[0]⟩])))))))
(.seq (.reg [⟨some 2,2,.mv (.k (.c (.s (.pv (.bool true))))),none,[]⟩])
.ret))))
theorem fn43 : FnIs Tryz.prog 43 ac43 [.t 2] 42 := ⟨Tryz.f43,Tryz.func43,by kernel_rfl,by kernel_rfl,by kernel_rfl⟩
def ac44 : ACode := (.seq (.reg [⟨some 1,1,.box 31 1 (.t 0),none,[]⟩,
⟨some 2,2,.mv (.k (.c (.s (.pv (.bool false))))),none,[]⟩])
(.seq (.seq (.reg [⟨some 5,5,.fld 0 (.t 1),none,[]⟩,
⟨some 6,6,.load false 1 (.t 5),none,[0]⟩,
⟨some 7,7,.len (.t 6),none,[1]⟩,
⟨some 8,8,.bin false .neq (.t 7) (.k (.c (.s (.pv (.int .i64 16))))),none,[2]⟩])
(.cond (.t 8) (.seq (.reg [⟨some 2,2,.mv (.k (.c (.s (.pv (.bool false))))),none,[]⟩])
.ret) .skip))
(.seq (.seq (.reg [⟨some 9,9,.fld 0 (.t 1),none,[]⟩,
⟨some 10,10,.load false 1 (.t 9),none,[0]⟩,
⟨some 11,11,.len (.t 10),none,[1]⟩,
⟨some 12,12,.mv (.k (.c (.s (.pv (.int .i64 0))))),none,[]⟩])
(.block 0 (.loop (.seq (.reg [⟨some 13,13,.bin false .lss (.t 12) (.t 11),none,[]⟩])
(.seq (.cond (.t 13) .skip (.exit 0))
(.seq (.block 1 (.seq (.reg [⟨some 14,14,.mv (.t 12),none,[]⟩,
⟨some 15,15,.idx 2 (.t 10) (.t 12),none,[]⟩,
⟨some 16,16,.load true 2 (.t 15),none,[1]⟩,
⟨some 4,4,.mk 155 2 [[.s (.pv (.int .i64 0)),.s (.pv (.int .i64 0))]],none,[]⟩,
⟨some 3,3,.mv (.t 14),none,[0,0,1,2,3]⟩,
⟨none,43,.store 2 (.t 4) (.t 16),none,[3,2,4,0,1,2,3,4]⟩])
(.seq (.seq (.reg [⟨some 17,17,.load true 2 (.t 4),none,[]⟩,
⟨some 18,18,.call 83 [.t 17],none,[0]⟩])
(.cond (.t 18) (.exit 1) .skip))
(.seq (.reg [⟨some 19,19,.fld 0 (.t 4),none,[]⟩,
⟨some 20,20,.load false 1 (.t 19),none,[0]⟩,
⟨some 21,21,.call 84 [.t 20],none,[1]⟩,
⟨some 22,22,.not (.t 21),none,[2]⟩,
⟨some 23,23,.mv (.t 22),none,[3,2]⟩,
⟨some 24,24,.fld 1 (.t 4),(some (23,false)),[4]⟩,
⟨some 25,25,.load false 1 (.t 24),(some (23,false)),[5,4]⟩,
⟨some 26,26,.call 85 [.t 25],(some (23,false)),[6,4,4]⟩,
⟨some 27,27,.not (.t 26),(some (23,false)),[7,4]⟩,
⟨some 28,28,.pick (.t 23) (.k (.c (.s (.pv (.bool true))))) (.t 27),none,[4,8]⟩,
⟨some 29,29,.mv (.t 28),none,[9,7]⟩,
⟨some 30,30,.load true 1 (.t 1),(some (29,false)),[10]⟩,
⟨some 31,31,.fld 0 (.t 4),(some (29,false)),[10]⟩,
⟨some 32,32,.load false 1 (.t 31),(some (29,false)),[12,10]⟩,
⟨some 33,33,.call 86 [.t 30,.t 32],(some (29,false)),[11,13,10,10]⟩,
⟨some 34,34,.mv (.t 3),(some (29,false)),[10]⟩,
⟨some 35,35,.bin false .neq (.t 33) (.t 34),(some (29,false)),[14,15,10]⟩,
⟨some 36,36,.pick (.t 29) (.k (.c (.s (.pv (.bool true))))) (.t 35),none,[10,16]⟩])
(.cond (.t 36) (.seq (.reg [⟨some 2,2,.mv (.k (.c (.s (.pv (.bool false))))),none,[]⟩])
.ret) .skip)))))
(.reg [⟨some 37,37,.bin false .add (.t 12) (.k (.c (.s (.pv (.int .i64 1))))),none,[]⟩,
⟨some 12,12,.mv (.t 37),none,[0]⟩])))))))
(.seq (.reg [⟨some 2,2,.mv (.k (.c (.s (.pv (.bool true))))),none,[]⟩])
.ret))))
theorem fn44 : FnIs Tryz.prog 44 ac44 [.t 2] 38 := ⟨Tryz.f44,Tryz.func44,by kernel_rfl,by kernel_rfl,by kernel_rfl⟩
def ac45 : ACode := (.seq (.reg [⟨some 2,2,.mv (.k (.c (.s (.pv (.bool false))))),none,[]⟩])
(.seq (.reg [⟨some 3,3,.mv (.k (.c (.s (.pv (.int .i64 0))))),none,[]⟩])
(.seq (.seq (.reg [⟨some 6,6,.mv (.t 0),none,[]⟩,
⟨some 7,7,.len (.t 6),none,[0]⟩,
⟨some 8,8,.mv (.k (.c (.s (.pv (.int .i64 0))))),none,[]⟩])
(.block 0 (.loop (.seq (.reg [⟨some 9,9,.bin false .lss (.t 8) (.t 7),none,[]⟩])
(.seq (.cond (.t 9) .skip (.exit 0))
(.seq (.block 1 (.seq (.reg [⟨some 10,10,.mv (.t 8),none,[]⟩,
⟨some 11,11,.idx 2 (.t 6) (.t 8),none,[]⟩,
⟨some 12,12,.load true 2 (.t 11),none,[1]⟩,
⟨some 5,5,.mk 64 2 [[.s (.pv (.int .i64 0)),.s (.pv (.int .i64 0))]],none,[]⟩,
⟨some 4,4,.mv (.t 10),none,[0,0,1,2,3]⟩,
⟨none,44,.store 2 (.t 5) (.t 12),none,[3,2,4,0,1,2,3,4]⟩])
(.seq (.seq (.reg [⟨some 13,13,.fld 0 (.t 5),none,[]⟩,
⟨some 14,14,.load false 1 (.t 13),none,[0]⟩,
⟨some 15,15,.call 87 [.t 14],none,[1]⟩,
⟨some 16,16,.not (.t 15),none,[2]⟩,
⟨some 17,17,.mv (.t 16),none,[3,2]⟩,
⟨some 18,18,.mv (.t 0),(some (17,false)),[4]⟩,
⟨some 19,19,.fld 0 (.t 5),(some (17,false)),[4]⟩,
⟨some 20,20,.load false 1 (.t 19),(some (17,false)),[6,4]⟩,
⟨some 21,21,.call 88 [.t 18,.t 20],(some (17,false)),[5,7,4,4]⟩,
⟨some 22,22,.mv (.t 4),(some (17,false)),[4]⟩,
⟨some 23,23,.bin false .lss (.t 21) (.t 22),(some (17,false)),[8,9,4]⟩,
⟨some 24,24,.pick (.t 17) (.k (.c (.s (.pv (.bool true))))) (.t 23),none,[4,10]⟩,
⟨some 25,25,.mv (.t 24),none,[11,8]⟩,
⟨some 26,26,.fld 1 (.t 5),(some (25,false)),[12]⟩,
⟨some 27,27,.load false 1 (.t 26),(some (25,false)),[13,12]⟩,
⟨some 28,28,.mv (.t 3),(some (25,false)),[12]⟩,
⟨some 29,29,.bin false .lss (.t 27) (.t 28),(some (25,false)),[14,15,12]⟩,
⟨some 30,30,.pick (.t 25) (.k (.c (.s (.pv (.bool true))))) (.t 29),none,[12,16]⟩,
⟨some 31,31,.mv (.t 30),none,[17,12]⟩,
⟨some 32,32,.fld 1 (.t 5),(some (31,false)),[18]⟩,
⟨some 33,33,.load false 1 (.t 32),(some (31,false)),[19,18]⟩,
⟨some 34,34,.bin false .gtr (.t 33) (.k (.c (.s (.pv (.int .i64 2147483647))))),(some (31,false)),[20,18]⟩,
⟨some 35,35,.pick (.t 31) (.k (.c (.s (.pv (.bool true))))) (.t 34),none,[18,21]⟩])
(.cond (.t 35) (.seq (.reg [⟨some 2,2,.mv (.k (.c (.s (.pv (.bool false))))),none,[]⟩])
.ret) .skip))
(.reg [⟨some 36,36,.fld 1 (.t 5),none,[]⟩,
⟨some 37,37,.load false 1 (.t 36),none,[0]⟩,
⟨some 3,3,.mv (.t 37),none,[1,0,1]⟩]))))
(.reg [⟨some 38,38,.bin false .add (.t 8) (.k (.c (.s (.pv (.int .i64 1))))),none,[]⟩,
⟨some 8,8,.mv (.t 38),none,[0]⟩])))))))
(.seq (.reg [⟨some 2,2,.mv (.k (.c (.s (.pv (.bool true))))),none,[]⟩])
.ret))))
theorem fn45 : FnIs Tryz.prog 45 ac45 [.t 2] 39 := ⟨Tryz.f45,Tryz.func45,by kernel_rfl,by kernel_rfl,by kernel_rfl⟩
def ac46 : ACode := (.seq (.reg [⟨some 2,2,.box 34 5 (.t 0),none,[]⟩,
⟨some 4,4,.mv (.k (.c (.s (.pv (.bool false))))),none,[]⟩])
(.seq (.draw [⟨some 9,9,.fld 0 (.t 2),none,[]⟩,
⟨some 10,10,.fld 0 (.t 9),none,[0]⟩,
⟨some 11,11,.load false 1 (.t 10),none,[1]⟩,
⟨some 12,12,.mv (.t 1),none,[]⟩,
⟨some 13,13,.idx 3 (.t 11) (.t 12),none,[2,3]⟩,
⟨some 14,14,.load true 3 (.t 13),none,[4]⟩,
⟨some 15,15,.fld 3 (.t 2),none,[]⟩,
⟨some 16,16,.load false 1 (.t 15),none,[6]⟩,
⟨some 17,17,.mv (.t 1),none,[]⟩,
⟨some 18,18,.idx 3 (.t 16) (.t 17),none,[7,8]⟩,
⟨some 19,19,.load true 3 (.t 18),none,[9]⟩,
⟨some 5,5,.mk 153 3 [[.s (.pv (.int .i64 0)),.s (.pv (.int .i64 0)),.s (.pv (.bool false))]],none,[]⟩,
⟨some 6,6,.mk 42 3 [[.s (.pv (.int .i64 0)),.s (.pv (.int .i64 0)),.s (.pv (.string ⟨#[]⟩))]],none,[]⟩,
⟨none,69,.store 3 (.t 5) (.t 14),none,[11,5,0,1,2,3,4,5,11,12]⟩,
⟨none,70,.store 3 (.t 6) (.t 19),none,[12,10,13,0,1,2,3,4,5,6,7,8,9,10,11,12,13]⟩])
(.seq (.seq (.reg [⟨some 20,20,.fld 0 (.t 5),none,[]⟩,
⟨some 21,21,.load false 1 (.t 20),none,[0]⟩,
⟨some 22,22,.bin false .eql (.t 21) (.k (.c (.s (.pv (.int .i64 0))))),none,[1]⟩])
(.cond (.t 22) (.seq (.reg [⟨some 23,23,.load true 3 (.t 6),none,[]⟩,
⟨some 24,24,.build [.s (.pv (.int .i64 0)),.s (.pv (.int .i64 0)),.s (.pv (.string ⟨#[]⟩))] [],none,[]⟩,
⟨some 25,25,.eqs false 42 (.t 23) (.t 24),none,[0,1]⟩,
⟨some 26,26,.mv (.t 25),none,[2]⟩,
⟨some 27,27,.fld 1 (.t 5),(some (26,true)),[3]⟩,
⟨some 28,28,.load false 1 (.t 27),(some (26,true)),[4,3]⟩,
⟨some 29,29,.bin false .eql (.t 28) (.k (.c (.s (.pv (.int .i64 0))))),(some (26,true)),[5,3]⟩,
⟨some 30,30,.pick (.t 26) (.t 29) (.k (.c (.s (.pv (.bool false))))),none,[3,6]⟩,
⟨some 4,4,.mv (.t 30),none,[7,3,0,1,2,3,4,5,6,7]⟩])
.ret) .skip))
(.seq (.reg [⟨some 32,32,.fld 2 (.t 2),none,[]⟩,
⟨some 33,33,.load true 1 (.t 32),none,[0]⟩,
⟨some 34,34,.fld 0 (.t 5),none,[]⟩,
⟨some 35,35,.load false 1 (.t 34),none,[2]⟩,
⟨some 36,36,.call 48 [.t 33,.t 35],none,[1,3]⟩,
⟨some 31,31,.mv (.t 36),none,[4]⟩,
⟨some 37,37,.ext 0 (.t 31),none,[5]⟩,
⟨some 38,38,.ext 1 (.t 31),none,[5]⟩,
⟨some 7,7,.mv (.t 37),none,[6,4,0,1,2,3,4,5,6]⟩,
⟨some 8,8,.mv (.t 38),none,[7,8,0,1,2,3,4,5,6,7,8]⟩])
(.seq (.reg [⟨some 39,39,.fld 0 (.t 5),none,[]⟩,
⟨some 40,40,.load false 1 (.t 39),none,[0]⟩,
⟨some 41,41,.fld 0 (.t 6),none,[]⟩,
⟨some 42,42,.load false 1 (.t 41),none,[2]⟩,
⟨some 43,43,.bin false .eql (.t 40) (.t 42),none,[1,3]⟩,
⟨some 44,44,.mv (.t 43),none,[4]⟩,
⟨some 45,45,.load true 3 (.t 6),(some (44,true)),[5]⟩,
⟨some 46,46,.call 89 [.t 45],(some (44,true)),[6,5,5]⟩,
⟨some 47,47,.pick (.t 44) (.t 46) (.k (.c (.s (.pv (.bool false))))),none,[5,7]⟩,
⟨some 48,48,.mv (.t 47),none,[8,7]⟩,
⟨some 49,49,.mv (.t 8),(some (48,true)),[9]⟩,
⟨some 50,50,.pick (.t 48) (.t 49) (.k (.c (.s (.pv (.bool false))))),none,[9,10]⟩,
⟨some 51,51,.mv (.t 50),none,[11,9]⟩,
⟨some 52,52,.mv (.t 7),(some (51,true)),[12]⟩,
⟨some 53,53,.mv (.t 1),(some (51,true)),[12]⟩,
⟨some 54,54,.bin false .eql (.t 52) (.t 53),(some (51,true)),[13,14,12]⟩,
⟨some 55,55,.pick (.t 51) (.t 54) (.k (.c (.s (.pv (.bool false))))),none,[12,15]⟩,
⟨some 4,4,.mv (.t 55),none,[16,12,0,1,2,3,4,5,6,7,8,9,10,11,12,13,14,15,16]⟩])
.ret)))))
theorem fn46 : FnIs Tryz.prog 46 ac46 [.t 4] 56 := ⟨Tryz.f46,Tryz.func46,by kernel_rfl,by kernel_rfl,by kernel_rfl⟩
def ac47 : ACode := (.seq (.reg [⟨some 1,1,.box 31 1 (.t 0),none,[]⟩,
⟨some 2,2,.mv (.k (.c .zc)),none,[]⟩])
(.seq (.seq (.reg [⟨some 6,6,.load true 1 (.t 1),none,[]⟩,
⟨some 7,7,.call 44 [.t 6],none,[0]⟩,
⟨some 8,8,.not (.t 7),none,[1]⟩])
(.cond (.t 8) (.seq (.reg [⟨some 2,2,.mv (.k (.c .zc)),none,[]⟩])
.ret) .skip))
(.seq (.reg [⟨some 3,3,.mv (.k (.c .zc)),none,[]⟩])
(.seq (.seq (.reg [⟨some 9,9,.fld 0 (.t 1),none,[]⟩,
⟨some 10,10,.load false 1 (.t 9),none,[0]⟩,
⟨some 11,11,.len (.t 10),none,[1]⟩,
⟨some 12,12,.mv (.k (.c (.s (.pv (.int .i64 0))))),none,[]⟩])
(.block 0 (.loop (.seq (.reg [⟨some 13,13,.bin false .lss (.t 12) (.t 11),none,[]⟩])
(.seq (.cond (.t 13) .skip (.exit 0))
(.seq (.block 1 (.seq (.reg [⟨some 14,14,.idx 2 (.t 10) (.t 12),none,[]⟩,
⟨some 15,15,.load true 2 (.t 14),none,[0]⟩,
⟨some 5,5,.mk 155 2 [[.s (.pv (.int .i64 0)),.s (.pv (.int .i64 0))]],none,[]⟩,
⟨none,31,.store 2 (.t 5) (.t 15),none,[2,1,0,1,2]⟩])
(.seq (.reg [⟨some 16,16,.load true 2 (.t 5),none,[]⟩,
⟨some 17,17,.call 83 [.t 16],none,[0]⟩,
⟨some 18,18,.not (.t 17),none,[1]⟩])
(.cond (.t 18) (.reg [⟨some 19,19,.mv (.t 3),none,[]⟩,
⟨some 20,20,.fld 0 (.t 5),none,[]⟩,
⟨some 21,21,.load false 1 (.t 20),none,[1]⟩,
⟨some 22,22,.bslice 3 1 [.s (.pv (.int .i64 0))] 1 [(0,1,(.t 21))],none,[2]⟩,
⟨some 23,23,.app 3 1 8 (.t 19) (.t 22),none,[0,3]⟩,
⟨some 3,3,.mv (.t 23),none,[4,4,0,1,2,3,4]⟩]) .skip))))
(.reg [⟨some 24,24,.bin false .add (.t 12) (.k (.c (.s (.pv (.int .i64 1))))),none,[]⟩,
⟨some 12,12,.mv (.t 24),none,[0]⟩])))))))
(.seq (.reg [⟨some 25,25,.mv (.t 3),none,[]⟩,
⟨some 26,26,.call 90 [.t 25],none,[0]⟩])
(.seq (.reg [⟨some 27,27,.mv (.t 3),none,[]⟩,
⟨some 2,2,.mv (.t 27),none,[0,0]⟩])
.ret))))))
theorem fn47 : FnIs Tryz.prog 47 ac47 [.t 2] 28 := ⟨Tryz.f47,Tryz.func47,by kernel_rfl,by kernel_rfl,by kernel_rfl⟩
def ac48 : ACode := (.seq (.reg [⟨some 2,2,.box 31 1 (.t 0),none,[]⟩,
⟨some 4,4,.mv (.k (.c (.s (.pv (.int .i64 0))))),none,[]⟩,
⟨some 5,5,.mv (.k (.c (.s (.pv (.bool false))))),none,[1]⟩])
(.seq (.seq (.reg [⟨some 8,8,.load true 1 (.t 2),none,[]⟩,
⟨some 9,9,.call 44 [.t 8],none,[0]⟩,
⟨some 10,10,.not (.t 9),none,[1]⟩])
(.cond (.t 10) (.seq (.reg [⟨some 4,4,.mv (.k (.c (.s (.pv (.int .i64 0))))),none,[]⟩,
⟨some 5,5,.mv (.k (.c (.s (.pv (.bool false))))),none,[0,0]⟩])
.ret) .skip))
(.seq (.reg [⟨some 12,12,.load true 1 (.t 2),none,[]⟩,
⟨some 13,13,.mv (.t 1),none,[]⟩,
⟨some 14,14,.call 91 [.t 12,.t 13],none,[0,1]⟩,
⟨some 11,11,.mv (.t 14),none,[2]⟩,
⟨some 15,15,.ext 0 (.t 11),none,[3]⟩,
⟨some 16,16,.ext 1 (.t 11),none,[3]⟩,
⟨some 6,6,.mv (.t 15),none,[4,2,0,1,2,3,4]⟩,
⟨some 7,7,.mv (.t 16),none,[5,6,0,1,2,3,4,5,6]⟩])
(.seq (.seq (.reg [⟨some 17,17,.mv (.t 7),none,[]⟩,
⟨some 18,18,.not (.t 17),none,[0]⟩])
(.cond (.t 18) (.seq (.reg [⟨some 4,4,.mv (.k (.c (.s (.pv (.int .i64 0))))),none,[]⟩,
⟨some 5,5,.mv (.k (.c (.s (.pv (.bool false))))),none,[0,0]⟩])
.ret) .skip))
(.seq (.reg [⟨some 19,19,.fld 0 (.t 2),none,[]⟩,
⟨some 20,20,.load false 1 (.t 19),none,[0]⟩,
⟨some 21,21,.mv (.t 6),none,[]⟩,
⟨some 22,22,.idx 2 (.t 20) (.t 21),none,[1,2]⟩,
⟨some 23,23,.fld 1 (.t 22),none,[3]⟩,
⟨some 24,24,.load false 1 (.t 23),none,[4]⟩,
⟨some 4,4,.mv (.t 24),none,[5,0,1,2,3,4,5]⟩,
⟨some 5,5,.mv (.k (.c (.s (.pv (.bool true))))),none,[6,0,1,2,3,4,5,6]⟩])
.ret)))))
theorem fn48 : FnIs Tryz.prog 48 ac48 [.t 4,.t 5] 25 := ⟨Tryz.f48,Tryz.func48,by kernel_rfl,by kernel_rfl,by kernel_rfl⟩
def ac54 : ACode := (.seq (.reg [⟨some 2,2,.mk 34 5 [[.zc,.s (.pv (.int .i64 0)),.zc,.zc,.zc]],none,[]⟩,
⟨some 3,3,.mv (.k (.c (.s (.pv (.int .i64 0))))),none,[]⟩])
(.seq (.seq (.reg [⟨some 4,4,.mv (.t 0),none,[]⟩,
⟨some 5,5,.bin false .lss (.t 4) (.k (.c (.s (.pv (.int .i64 1))))),none,[0]⟩,
⟨some 6,6,.mv (.t 5),none,[1]⟩,
⟨some 7,7,.mv (.t 0),(some (6,false)),[2]⟩,
⟨some 8,8,.bin false .gtr (.t 7) (.k (.c (.s (.pv (.int .i64 8))))),(some (6,false)),[3,2]⟩,
⟨some 9,9,.pick (.t 6) (.k (.c (.s (.pv (.bool true))))) (.t 8),none,[2,4]⟩])
(.cond (.t 9) (.seq (.reg [⟨some 10,10,.build [.zc,.s (.pv (.int .i64 0)),.zc,.zc,.zc] [],none,[]⟩,
⟨none,19,.store 5 (.t 2) (.t 10),none,[0,0]⟩,
⟨some 3,3,.mv (.k (.c (.s (.pv (.int .i64 1))))),none,[1,0,1]⟩])
.ret) .skip))
(.seq (.draw [⟨some 11,11,.mv (.t 0),none,[]⟩,
⟨some 12,12,.mkSlice 153 3 24 [.pv (.int .i64 0),.pv (.int .i64 0),.pv (.bool false)] (.t 11) (.t 11),none,[0,0]⟩,
⟨some 13,13,.build [.zc,.s (.pv (.int .i64 0))] [(0,1,(.t 12))],none,[1]⟩,
⟨some 14,14,.call 101 [],none,[]⟩,
⟨some 15,15,.mv (.t 0),none,[]⟩,
⟨some 16,16,.mkSlice 42 3 32 [.pv (.int .i64 0),.pv (.int .i64 0),.pv (.string ⟨#[]⟩)] (.t 15) (.t 15),none,[4,4]⟩,
⟨some 17,17,.build [.zc,.s (.pv (.int .i64 0)),.zc,.zc,.zc] [(0,2,(.t 13)),(2,1,(.t 14)),(3,1,(.t 16))],none,[2,3,5]⟩,
⟨none,25,.store 5 (.t 2) (.t 17),none,[6,3,0,1,2,3,4,5,6]⟩,
⟨some 3,3,.mv (.k (.c (.s (.pv (.int .i64 0))))),none,[7,0,1,2,3,4,5,6,7]⟩])
.ret)))
theorem fn54 : FnIs Tryz.prog 54 ac54 [.cell 2 true 5,.t 3] 18 := ⟨Tryz.f54,Tryz.func54,by kernel_rfl,by kernel_rfl,by kernel_rfl⟩
def ac82 : ACode := (.seq (.reg [⟨some 2,2,.box 28 2 (.t 0),none,[]⟩,
⟨some 4,4,.mv (.k (.c (.s (.pv (.bool false))))),none,[]⟩])
(.seq (.reg [⟨some 5,5,.mv (.t 1),none,[]⟩,
⟨some 6,6,.bin false .geq (.t 5) (.k (.c (.s (.pv (.int .i64 0))))),none,[0]⟩,
⟨some 7,7,.mv (.t 6),none,[1]⟩,
⟨some 8,8,.mv (.t 1),(some (7,true)),[2]⟩,
⟨some 9,9,.fld 0 (.t 2),(some (7,true)),[2]⟩,
⟨some 10,10,.load false 1 (.t 9),(some (7,true)),[4,2]⟩,
⟨some 11,11,.len (.t 10),(some (7,true)),[5,2]⟩,
⟨some 12,12,.bin false .lss (.t 8) (.t 11),(some (7,true)),[3,6,2]⟩,
⟨some 13,13,.pick (.t 7) (.t 12) (.k (.c (.s (.pv (.bool false))))),none,[2,7]⟩,
⟨some 4,4,.mv (.t 13),none,[8,2,0,1,2,3,4,5,6,7,8]⟩])
.ret))
theorem fn82 : FnIs Tryz.prog 82 ac82 [.t 4] 14 := ⟨Tryz.f82,Tryz.func82,by kernel_rfl,by kernel_rfl,by kernel_rfl⟩
def ac83 : ACode := (.seq (.reg [⟨some 1,1,.box 155 2 (.t 0),none,[]⟩,
⟨some 2,2,.mv (.k (.c (.s (.pv (.bool false))))),none,[]⟩])
(.seq (.reg [⟨some 3,3,.load true 2 (.t 1),none,[]⟩,
⟨some 4,4,.build [.s (.pv (.int .i64 0)),.s (.pv (.int .i64 0))] [],none,[]⟩,
⟨some 5,5,.eqs false 155 (.t 3) (.t 4),none,[0,1]⟩,
⟨some 2,2,.mv (.t 5),none,[2,0,1,2]⟩])
.ret))
theorem fn83 : FnIs Tryz.prog 83 ac83 [.t 2] 6 := ⟨Tryz.f83,Tryz.func83,by kernel_rfl,by kernel_rfl,by kernel_rfl⟩
def ac84 : ACode := (.seq (.reg [⟨some 2,2,.mv (.k (.c (.s (.pv (.bool false))))),none,[]⟩])
(.seq (.reg [⟨some 3,3,.mv (.t 0),none,[]⟩,
⟨some 4,4,.bin false .geq (.t 3) (.k (.c (.s (.pv (.int .i64 1))))),none,[0]⟩,
⟨some 5,5,.mv (.t 4),none,[1]⟩,
⟨some 6,6,.mv (.t 0),(some (5,true)),[2]⟩,
⟨some 7,7,.bin false .leq (.t 6) (.k (.c (.s (.pv (.int .i64 2147483647))))),(some (5,true)),[3,2]⟩,
⟨some 8,8,.pick (.t 5) (.t 7) (.k (.c (.s (.pv (.bool false))))),none,[2,4]⟩,
⟨some 2,2,.mv (.t 8),none,[5,2,0,1,2,3,4,5]⟩])
.ret))
theorem fn84 : FnIs Tryz.prog 84 ac84 [.t 2] 9 := ⟨Tryz.f84,Tryz.func84,by kernel_rfl,by kernel_rfl,by kernel_rfl⟩
def ac85 : ACode := (.seq (.reg [⟨some 2,2,.mv (.k (.c (.s (.pv (.bool false))))),none,[]⟩])
(.seq (.reg [⟨some 3,3,.mv (.t 0),none,[]⟩,
⟨some 4,4,.bin false .geq (.t 3) (.k (.c (.s (.pv (.int .i64 0))))),none,[0]⟩,
⟨some 5,5,.mv (.t 4),none,[1]⟩,
⟨some 6,6,.mv (.t 0),(some (5,true)),[2]⟩,
⟨some 7,7,.bin false .leq (.t 6) (.k (.c (.s (.pv (.int .i64 2147483647))))),(some (5,true)),[3,2]⟩,
⟨some 8,8,.pick (.t 5) (.t 7) (.k (.c (.s (.pv (.bool false))))),none,[2,4]⟩,
⟨some 2,2,.mv (.t 8),none,[5,2,0,1,2,3,4,5]⟩])
.ret))
theorem fn85 : FnIs Tryz.prog 85 ac85 [.t 2] 9 := ⟨Tryz.f85,Tryz.func85,by kernel_rfl,by kernel_rfl,by kernel_rfl⟩
def ac86 : ACode := (.seq (.reg [⟨some 2,2,.box 31 1 (.t 0),none,[]⟩,
⟨some 4,4,.mv (.k (.c (.s (.pv (.int .i64 0))))),none,[]⟩])
(.seq (.seq (.reg [⟨some 8,8,.mv (.k (.c (.s (.pv (.int .i64 0))))),none,[]⟩])
(.block 0 (.loop (.seq (.reg [⟨some 9,9,.bin false .lss (.t 8) (.k (.c (.s (.pv (.int .i64 16))))),none,[]⟩])
(.seq (.cond (.t 9) .skip (.exit 0))
(.seq (.block 1 (.seq (.reg [⟨some 10,10,.mv (.t 8),none,[]⟩,
⟨some 5,5,.mv (.t 10),none,[0,0]⟩])
(.seq (.reg [⟨some 11,11,.mv (.t 1),none,[]⟩,
⟨some 12,12,.mv (.t 5),none,[]⟩,
⟨some 13,13,.bin false .add (.t 11) (.t 12),none,[0,1]⟩,
⟨some 14,14,.bin false .rem (.t 13) (.k (.c (.s (.pv (.int .i64 16))))),none,[2]⟩,
⟨some 6,6,.mv (.t 14),none,[3,0,1,2,3]⟩])
(.seq (.reg [⟨some 15,15,.fld 0 (.t 2),none,[]⟩,
⟨some 16,16,.load false 1 (.t 15),none,[0]⟩,
⟨some 17,17,.mv (.t 6),none,[]⟩,
⟨some 18,18,.idx 2 (.t 16) (.t 17),none,[1,2]⟩,
⟨some 19,19,.load true 2 (.t 18),none,[3]⟩,
⟨some 7,7,.mk 155 2 [[.s (.pv (.int .i64 0)),.s (.pv (.int .i64 0))]],none,[]⟩,
⟨none,36,.store 2 (.t 7) (.t 19),none,[5,4,0,1,2,3,4,5]⟩])
(.seq (.reg [⟨some 20,20,.fld 0 (.t 7),none,[]⟩,
⟨some 21,21,.load false 1 (.t 20),none,[0]⟩,
⟨some 22,22,.mv (.t 1),none,[]⟩,
⟨some 23,23,.bin false .eql (.t 21) (.t 22),none,[1,2]⟩,
⟨some 24,24,.mv (.t 23),none,[3]⟩,
⟨some 25,25,.load true 2 (.t 7),(some (24,false)),[4]⟩,
⟨some 26,26,.call 83 [.t 25],(some (24,false)),[5,4,4]⟩,
⟨some 27,27,.pick (.t 24) (.k (.c (.s (.pv (.bool true))))) (.t 26),none,[4,6]⟩])
(.cond (.t 27) (.seq (.reg [⟨some 28,28,.mv (.t 6),none,[]⟩,
⟨some 4,4,.mv (.t 28),none,[0,0]⟩])
.ret) .skip))))))
(.reg [⟨some 29,29,.bin false .add (.t 8) (.k (.c (.s (.pv (.int .i64 1))))),none,[]⟩,
⟨some 8,8,.mv (.t 29),none,[0]⟩])))))))
(.seq (.reg [⟨some 4,4,.mv (.k (.c (.s (.pv (.int .i64 (-1)))))),none,[]⟩])
.ret)))
theorem fn86 : FnIs Tryz.prog 86 ac86 [.t 4] 30 := ⟨Tryz.f86,Tryz.func86,by kernel_rfl,by kernel_rfl,by kernel_rfl⟩
def ac87 : ACode := (.seq (.reg [⟨some 2,2,.mv (.k (.c (.s (.pv (.bool false))))),none,[]⟩])
(.seq (.reg [⟨some 3,3,.mv (.t 0),none,[]⟩,
⟨some 4,4,.bin false .geq (.t 3) (.k (.c (.s (.pv (.int .i64 1))))),none,[0]⟩,
⟨some 5,5,.mv (.t 4),none,[1]⟩,
⟨some 6,6,.mv (.t 0),(some (5,true)),[2]⟩,
⟨some 7,7,.bin false .leq (.t 6) (.k (.c (.s (.pv (.int .i64 16))))),(some (5,true)),[3,2]⟩,
⟨some 8,8,.pick (.t 5) (.t 7) (.k (.c (.s (.pv (.bool false))))),none,[2,4]⟩,
⟨some 2,2,.mv (.t 8),none,[5,2,0,1,2,3,4,5]⟩])
.ret))
theorem fn87 : FnIs Tryz.prog 87 ac87 [.t 2] 9 := ⟨Tryz.f87,Tryz.func87,by kernel_rfl,by kernel_rfl,by kernel_rfl⟩
def ac88 : ACode := (.seq (.reg [⟨some 3,3,.box 3 1 (.t 1),none,[]⟩,
⟨some 4,4,.mv (.k (.c (.s (.pv (.int .i64 0))))),none,[]⟩])
(.seq (.reg [⟨some 5,5,.mv (.t 0),none,[]⟩,
⟨some 6,6,.clo 127 [.t 3],none,[]⟩,
⟨some 7,7,.call 126 [.t 5,.t 6],none,[0,1]⟩,
⟨some 4,4,.mv (.t 7),none,[2,2,0,1,2]⟩])
.ret))
theorem fn88 : FnIs Tryz.prog 88 ac88 [.t 4] 8 := ⟨Tryz.f88,Tryz.func88,by kernel_rfl,by kernel_rfl,by kernel_rfl⟩
def ac91 : ACode := (.seq (.reg [⟨some 2,2,.box 31 1 (.t 0),none,[]⟩,
⟨some 4,4,.mv (.k (.c (.s (.pv (.int .i64 0))))),none,[]⟩,
⟨some 5,5,.mv (.k (.c (.s (.pv (.bool false))))),none,[1]⟩])
(.seq (.seq (.reg [⟨some 7,7,.mv (.t 1),none,[]⟩,
⟨some 8,8,.call 84 [.t 7],none,[0]⟩,
⟨some 9,9,.not (.t 8),none,[1]⟩])
(.cond (.t 9) (.seq (.reg [⟨some 4,4,.mv (.k (.c (.s (.pv (.int .i64 0))))),none,[]⟩,
⟨some 5,5,.mv (.k (.c (.s (.pv (.bool false))))),none,[0,0]⟩])
.ret) .skip))
(.seq (.reg [⟨some 10,10,.load true 1 (.t 2),none,[]⟩,
⟨some 11,11,.mv (.t 1),none,[]⟩,
⟨some 12,12,.call 86 [.t 10,.t 11],none,[0,1]⟩,
⟨some 6,6,.mv (.t 12),none,[2,2,0,1,2]⟩])
(.seq (.draw [⟨some 13,13,.mv (.t 6),none,[]⟩,
⟨some 14,14,.mv (.t 6),none,[]⟩,
⟨some 15,15,.bin false .geq (.t 14) (.k (.c (.s (.pv (.int .i64 0))))),none,[1]⟩,
⟨some 16,16,.mv (.t 15),none,[2]⟩,
⟨some 17,17,.fld 0 (.t 2),(some (16,true)),[3]⟩,
⟨some 18,18,.load false 1 (.t 17),(some (16,true)),[4,3]⟩,
⟨some 19,19,.mv (.t 6),(some (16,true)),[3]⟩,
⟨some 20,20,.idx 2 (.t 18) (.t 19),(some (16,true)),[5,6,3]⟩,
⟨some 21,21,.fld 0 (.t 20),(some (16,true)),[7,3]⟩,
⟨some 22,22,.load false 1 (.t 21),(some (16,true)),[8,3]⟩,
⟨some 23,23,.mv (.t 1),(some (16,true)),[3]⟩,
⟨some 24,24,.bin false .eql (.t 22) (.t 23),(some (16,true)),[9,10,3]⟩,
⟨some 25,25,.pick (.t 16) (.t 24) (.k (.c (.s (.pv (.bool false))))),none,[3,11]⟩,
⟨some 4,4,.mv (.t 13),none,[0,3,0]⟩,
⟨some 5,5,.mv (.t 25),none,[12,13,0,1,2,3,4,5,6,7,8,9,10,11,12,13]⟩])
.ret))))
theorem fn91 : FnIs Tryz.prog 91 ac91 [.t 4,.t 5] 26 := ⟨Tryz.f91,Tryz.func91,by kernel_rfl,by kernel_rfl,by kernel_rfl⟩
def ac101 : ACode := (.seq (.reg [⟨some 0,0,.mk 31 1 [[.zc]],none,[]⟩])
(.seq (.reg [⟨some 1,1,.mkSlice 155 2 16 [.pv (.int .i64 0),.pv (.int .i64 0)] (.k (.c (.s (.pv (.int .i64 16))))) (.k (.c (.s (.pv (.int .i64 16))))),none,[]⟩,
⟨some 2,2,.build [.zc] [(0,1,(.t 1))],none,[0]⟩,
⟨none,5,.store 1 (.t 0) (.t 2),none,[1,0,1]⟩])
.ret))
theorem fn101 : FnIs Tryz.prog 101 ac101 [.cell 0 true 1] 3 := ⟨Tryz.f101,Tryz.func101,by kernel_rfl,by kernel_rfl,by kernel_rfl⟩
def ac115 : ACode := (.seq (.reg [⟨some 2,2,.box 34 5 (.t 0),none,[]⟩,
⟨some 4,4,.mk 34 5 [[.zc,.s (.pv (.int .i64 0)),.zc,.zc,.zc]],none,[]⟩,
⟨some 5,5,.mv (.k (.c (.s (.pv (.int .i64 0))))),none,[]⟩])
(.seq (.reg [⟨some 10,10,.load true 5 (.t 2),none,[]⟩,
⟨some 11,11,.mv (.t 1),none,[]⟩,
⟨some 12,12,.call 140 [.t 10,.t 11],none,[0,1]⟩,
⟨some 9,9,.mv (.t 12),none,[2]⟩,
⟨some 13,13,.ext 0 (.t 9),none,[3]⟩,
⟨some 14,14,.ext 1 (.t 9),none,[3]⟩,
⟨some 6,6,.mv (.t 13),none,[4,2,0,1,2,3,4]⟩,
⟨some 7,7,.mv (.t 14),none,[5,6,0,1,2,3,4,5,6]⟩])
(.seq (.seq (.reg [⟨some 15,15,.mv (.t 7),none,[]⟩,
⟨some 16,16,.bin false .neq (.t 15) (.k (.c (.s (.pv (.int .i64 0))))),none,[0]⟩])
(.cond (.t 16) (.seq (.reg [⟨some 17,17,.load true 5 (.t 2),none,[]⟩,
⟨some 18,18,.mv (.t 7),none,[]⟩,
⟨none,45,.store 5 (.t 4) (.t 17),none,[0,0]⟩,
⟨some 5,5,.mv (.t 18),none,[1,2,0,1,2]⟩])
.ret) .skip))
(.seq (.reg [⟨some 19,19,.fld 0 (.t 2),none,[]⟩,
⟨some 20,20,.fld 0 (.t 19),none,[0]⟩,
⟨some 21,21,.load false 1 (.t 20),none,[1]⟩,
⟨some 22,22,.mv (.t 6),none,[]⟩,
⟨some 23,23,.idx 3 (.t 21) (.t 22),none,[2,3]⟩,
⟨some 24,24,.load true 3 (.t 23),none,[4]⟩,
⟨some 8,8,.mk 153 3 [[.s (.pv (.int .i64 0)),.s (.pv (.int .i64 0)),.s (.pv (.bool false))]],none,[]⟩,
⟨none,50,.store 3 (.t 8) (.t 24),none,[6,5,0,1,2,3,4,5,6]⟩])
(.seq (.seq (.reg [⟨some 25,25,.fld 1 (.t 8),none,[]⟩,
⟨some 26,26,.load false 1 (.t 25),none,[0]⟩,
⟨some 27,27,.bin false .eql (.t 26) (.k (.c (.s (.pv (.int .i64 2147483647))))),none,[1]⟩])
(.cond (.t 27) (.seq (.reg [⟨some 28,28,.load true 5 (.t 2),none,[]⟩,
⟨none,44,.store 5 (.t 4) (.t 28),none,[0,0]⟩,
⟨some 5,5,.mv (.k (.c (.s (.pv (.int .i64 7))))),none,[1,0,1]⟩])
.ret) .skip))
(.seq (.reg [⟨some 29,29,.fld 1 (.t 8),none,[]⟩,
⟨some 30,30,.load false 1 (.t 29),none,[0]⟩,
⟨some 31,31,.bin false .add (.t 30) (.k (.c (.s (.pv (.int .i64 1))))),none,[1]⟩,
⟨some 32,32,.fld 1 (.t 8),none,[0,1,2]⟩,
⟨none,47,.store 1 (.t 32) (.t 31),none,[3,2,0,1,2]⟩])
(.seq (.reg [⟨some 33,33,.fld 2 (.t 8),none,[]⟩,
⟨none,44,.store 1 (.t 33) (.k (.c (.s (.pv (.bool true))))),none,[0]⟩])
(.seq (.draw [⟨some 34,34,.load true 5 (.t 2),none,[]⟩,
⟨some 35,35,.mv (.t 6),none,[]⟩,
⟨some 36,36,.load true 3 (.t 8),none,[]⟩,
⟨some 37,37,.fld 3 (.t 2),none,[]⟩,
⟨some 38,38,.load false 1 (.t 37),none,[3]⟩,
⟨some 39,39,.mv (.t 6),none,[]⟩,
⟨some 40,40,.idx 3 (.t 38) (.t 39),none,[4,5]⟩,
⟨some 41,41,.load true 3 (.t 40),none,[6]⟩,
⟨some 42,42,.call 141 [.t 34,.t 35,.t 36,.t 41],none,[0,1,2,7]⟩,
⟨none,52,.store 5 (.t 4) (.t 42),none,[8,8,0,1,2,3,4,5,6,7,8]⟩,
⟨some 5,5,.mv (.k (.c (.s (.pv (.int .i64 0))))),none,[9,0,1,2,3,4,5,6,7,8,9]⟩])
.ret))))))))
theorem fn115 : FnIs Tryz.prog 115 ac115 [.cell 4 true 5,.t 5] 43 := ⟨Tryz.f115,Tryz.func115,by kernel_rfl,by kernel_rfl,by kernel_rfl⟩
def ac119 : ACode := (.seq (.reg [⟨some 4,4,.box 34 5 (.t 0),none,[]⟩,
⟨some 8,8,.mk 34 5 [[.zc,.s (.pv (.int .i64 0)),.zc,.zc,.zc]],none,[]⟩,
⟨some 9,9,.mv (.k (.c (.s (.pv (.int .i64 0))))),none,[]⟩])
(.seq (.reg [⟨some 16,16,.load true 5 (.t 4),none,[]⟩,
⟨some 17,17,.mv (.t 1),none,[]⟩,
⟨some 18,18,.call 140 [.t 16,.t 17],none,[0,1]⟩,
⟨some 15,15,.mv (.t 18),none,[2]⟩,
⟨some 19,19,.ext 0 (.t 15),none,[3]⟩,
⟨some 20,20,.ext 1 (.t 15),none,[3]⟩,
⟨some 10,10,.mv (.t 19),none,[4,2,0,1,2,3,4]⟩,
⟨some 11,11,.mv (.t 20),none,[5,6,0,1,2,3,4,5,6]⟩])
(.seq (.seq (.reg [⟨some 21,21,.mv (.t 11),none,[]⟩,
⟨some 22,22,.bin false .neq (.t 21) (.k (.c (.s (.pv (.int .i64 0))))),none,[0]⟩])
(.cond (.t 22) (.seq (.reg [⟨some 23,23,.load true 5 (.t 4),none,[]⟩,
⟨some 24,24,.mv (.t 11),none,[]⟩,
⟨none,74,.store 5 (.t 8) (.t 23),none,[0,0]⟩,
⟨some 9,9,.mv (.t 24),none,[1,2,0,1,2]⟩])
.ret) .skip))
(.seq (.draw [⟨some 25,25,.fld 3 (.t 4),none,[]⟩,
⟨some 26,26,.load false 1 (.t 25),none,[0]⟩,
⟨some 27,27,.mv (.t 10),none,[]⟩,
⟨some 28,28,.idx 3 (.t 26) (.t 27),none,[1,2]⟩,
⟨some 29,29,.load true 3 (.t 28),none,[3]⟩,
⟨some 30,30,.fld 0 (.t 4),none,[]⟩,
⟨some 31,31,.fld 0 (.t 30),none,[5]⟩,
⟨some 32,32,.load false 1 (.t 31),none,[6]⟩,
⟨some 33,33,.mv (.t 10),none,[]⟩,
⟨some 34,34,.idx 3 (.t 32) (.t 33),none,[7,8]⟩,
⟨some 35,35,.load true 3 (.t 34),none,[9]⟩,
⟨some 12,12,.mk 42 3 [[.s (.pv (.int .i64 0)),.s (.pv (.int .i64 0)),.s (.pv (.string ⟨#[]⟩))]],none,[]⟩,
⟨some 13,13,.mk 153 3 [[.s (.pv (.int .i64 0)),.s (.pv (.int .i64 0)),.s (.pv (.bool false))]],none,[]⟩,
⟨none,85,.store 3 (.t 12) (.t 29),none,[11,4,0,1,2,3,4,11,12]⟩,
⟨none,86,.store 3 (.t 13) (.t 35),none,[12,10,13,0,1,2,3,4,5,6,7,8,9,10,11,12,13]⟩])
(.seq (.block 0 (.seq (.reg [⟨some 37,37,.fld 1 (.t 13),none,[]⟩,
⟨some 38,38,.load false 1 (.t 37),none,[0]⟩,
⟨some 39,39,.bin false .eql (.t 38) (.k (.c (.s (.pv (.int .i64 0))))),none,[1]⟩,
⟨some 36,36,.mv (.t 39),none,[2]⟩])
(.cond (.t 36) (.seq (.reg [⟨some 40,40,.load true 5 (.t 4),none,[]⟩,
⟨none,73,.store 5 (.t 8) (.t 40),none,[0,0]⟩,
⟨some 9,9,.mv (.k (.c (.s (.pv (.int .i64 12))))),none,[1,0,1]⟩])
.ret) (.seq (.reg [⟨some 42,42,.mv (.t 2),none,[]⟩,
⟨some 43,43,.slen (.t 42),none,[0]⟩,
⟨some 44,44,.bin false .gtr (.t 43) (.k (.c (.s (.pv (.int .i64 16))))),none,[1]⟩,
⟨some 41,41,.mv (.t 44),none,[2]⟩])
(.cond (.t 41) (.seq (.reg [⟨some 45,45,.load true 5 (.t 4),none,[]⟩,
⟨none,73,.store 5 (.t 8) (.t 45),none,[0,0]⟩,
⟨some 9,9,.mv (.k (.c (.s (.pv (.int .i64 5))))),none,[1,0,1]⟩])
.ret) (.seq (.reg [⟨some 47,47,.fld 1 (.t 12),none,[]⟩,
⟨some 48,48,.load false 1 (.t 47),none,[0]⟩,
⟨some 49,49,.bin false .eql (.t 48) (.k (.c (.s (.pv (.int .i64 2147483647))))),none,[1]⟩,
⟨some 46,46,.mv (.t 49),none,[2]⟩])
(.cond (.t 46) (.seq (.reg [⟨some 50,50,.load true 5 (.t 4),none,[]⟩,
⟨none,73,.store 5 (.t 8) (.t 50),none,[0,0]⟩,
⟨some 9,9,.mv (.k (.c (.s (.pv (.int .i64 7))))),none,[1,0,1]⟩])
.ret) .skip)))))))
(.seq (.reg [⟨some 52,52,.load true 5 (.t 4),none,[]⟩,
⟨some 53,53,.mv (.t 1),none,[]⟩,
⟨some 54,54,.mv (.t 3),none,[]⟩,
⟨some 55,55,.call 145 [.t 52,.t 53,.t 54],none,[0,1,2]⟩,
⟨some 51,51,.mv (.t 55),none,[3]⟩,
⟨some 56,56,.ext 0 (.t 51),none,[4]⟩,
⟨some 57,57,.ext 1 (.t 51),none,[4]⟩,
⟨some 14,14,.mk 34 5 [[.zc,.s (.pv (.int .i64 0)),.zc,.zc,.zc]],none,[]⟩,
⟨none,80,.store 5 (.t 14) (.t 56),none,[7,5,3,0,1,2,3,4,5,7]⟩,
⟨some 11,11,.mv (.t 57),none,[6,8,0,1,2,3,4,5,6,7,8]⟩])
(.seq (.seq (.reg [⟨some 58,58,.mv (.t 11),none,[]⟩,
⟨some 59,59,.bin false .neq (.t 58) (.k (.c (.s (.pv (.int .i64 0))))),none,[0]⟩])
(.cond (.t 59) (.seq (.reg [⟨some 60,60,.load true 5 (.t 4),none,[]⟩,
⟨some 61,61,.mv (.t 11),none,[]⟩,
⟨none,74,.store 5 (.t 8) (.t 60),none,[0,0]⟩,
⟨some 9,9,.mv (.t 61),none,[1,2,0,1,2]⟩])
.ret) .skip))
(.seq (.reg [⟨some 62,62,.load true 5 (.t 14),none,[]⟩,
⟨some 63,63,.mv (.t 10),none,[]⟩,
⟨some 64,64,.load true 3 (.t 13),none,[]⟩,
⟨some 65,65,.mv (.t 1),none,[]⟩,
⟨some 66,66,.fld 1 (.t 12),none,[]⟩,
⟨some 67,67,.load false 1 (.t 66),none,[4]⟩,
⟨some 68,68,.bin false .add (.t 67) (.k (.c (.s (.pv (.int .i64 1))))),none,[5]⟩,
⟨some 69,69,.mv (.t 2),none,[]⟩,
⟨some 70,70,.build [.s (.pv (.int .i64 0)),.s (.pv (.int .i64 0)),.s (.pv (.string ⟨#[]⟩))] [(0,1,(.t 65)),(1,1,(.t 68)),(2,1,(.t 69))],none,[3,6,7]⟩,
⟨some 71,71,.call 141 [.t 62,.t 63,.t 64,.t 70],none,[0,1,2,8]⟩,
⟨none,82,.store 5 (.t 8) (.t 71),none,[9,9,0,1,2,3,4,5,6,7,8,9]⟩,
⟨some 9,9,.mv (.k (.c (.s (.pv (.int .i64 0))))),none,[10,0,1,2,3,4,5,6,7,8,9,10]⟩])
.ret))))))))
theorem fn119 : FnIs Tryz.prog 119 ac119 [.cell 8 true 5,.t 9] 72 := ⟨Tryz.f119,Tryz.func119,by kernel_rfl,by kernel_rfl,by kernel_rfl⟩
def ac120 : ACode := (.seq (.reg [⟨some 2,2,.box 34 5 (.t 0),none,[]⟩,
⟨some 4,4,.mk 34 5 [[.zc,.s (.pv (.int .i64 0)),.zc,.zc,.zc]],none,[]⟩,
⟨some 5,5,.mv (.k (.c (.s (.pv (.int .i64 0))))),none,[]⟩])
(.seq (.reg [⟨some 10,10,.load true 5 (.t 2),none,[]⟩,
⟨some 11,11,.mv (.t 1),none,[]⟩,
⟨some 12,12,.call 140 [.t 10,.t 11],none,[0,1]⟩,
⟨some 9,9,.mv (.t 12),none,[2]⟩,
⟨some 13,13,.ext 0 (.t 9),none,[3]⟩,
⟨some 14,14,.ext 1 (.t 9),none,[3]⟩,
⟨some 6,6,.mv (.t 13),none,[4,2,0,1,2,3,4]⟩,
⟨some 7,7,.mv (.t 14),none,[5,6,0,1,2,3,4,5,6]⟩])
(.seq (.seq (.reg [⟨some 15,15,.mv (.t 7),none,[]⟩,
⟨some 16,16,.bin false .neq (.t 15) (.k (.c (.s (.pv (.int .i64 0))))),none,[0]⟩])
(.cond (.t 16) (.seq (.reg [⟨some 17,17,.load true 5 (.t 2),none,[]⟩,
⟨some 18,18,.mv (.t 7),none,[]⟩,
⟨none,44,.store 5 (.t 4) (.t 17),none,[0,0]⟩,
⟨some 5,5,.mv (.t 18),none,[1,2,0,1,2]⟩])
.ret) .skip))
(.seq (.reg [⟨some 19,19,.fld 0 (.t 2),none,[]⟩,
⟨some 20,20,.fld 0 (.t 19),none,[0]⟩,
⟨some 21,21,.load false 1 (.t 20),none,[1]⟩,
⟨some 22,22,.mv (.t 6),none,[]⟩,
⟨some 23,23,.idx 3 (.t 21) (.t 22),none,[2,3]⟩,
⟨some 24,24,.load true 3 (.t 23),none,[4]⟩,
⟨some 8,8,.mk 153 3 [[.s (.pv (.int .i64 0)),.s (.pv (.int .i64 0)),.s (.pv (.bool false))]],none,[]⟩,
⟨none,49,.store 3 (.t 8) (.t 24),none,[6,5,0,1,2,3,4,5,6]⟩])
(.seq (.seq (.reg [⟨some 25,25,.fld 1 (.t 8),none,[]⟩,
⟨some 26,26,.load false 1 (.t 25),none,[0]⟩,
⟨some 27,27,.bin false .eql (.t 26) (.k (.c (.s (.pv (.int .i64 0))))),none,[1]⟩])
(.cond (.t 27) (.seq (.reg [⟨some 28,28,.load true 5 (.t 2),none,[]⟩,
⟨none,43,.store 5 (.t 4) (.t 28),none,[0,0]⟩,
⟨some 5,5,.mv (.k (.c (.s (.pv (.int .i64 12))))),none,[1,0,1]⟩])
.ret) .skip))
(.seq (.reg [⟨some 29,29,.fld 1 (.t 8),none,[]⟩,
⟨some 30,30,.load false 1 (.t 29),none,[0]⟩,
⟨some 31,31,.bin false .sub (.t 30) (.k (.c (.s (.pv (.int .i64 1))))),none,[1]⟩,
⟨some 32,32,.fld 1 (.t 8),none,[0,1,2]⟩,
⟨none,46,.store 1 (.t 32) (.t 31),none,[3,2,0,1,2]⟩])
(.seq (.draw [⟨some 33,33,.load true 5 (.t 2),none,[]⟩,
⟨some 34,34,.mv (.t 6),none,[]⟩,
⟨some 35,35,.load true 3 (.t 8),none,[]⟩,
⟨some 36,36,.fld 3 (.t 2),none,[]⟩,
⟨some 37,37,.load false 1 (.t 36),none,[3]⟩,
⟨some 38,38,.mv (.t 6),none,[]⟩,
⟨some 39,39,.idx 3 (.t 37) (.t 38),none,[4,5]⟩,
⟨some 40,40,.load true 3 (.t 39),none,[6]⟩,
⟨some 41,41,.call 141 [.t 33,.t 34,.t 35,.t 40],none,[0,1,2,7]⟩,
⟨none,51,.store 5 (.t 4) (.t 41),none,[8,8,0,1,2,3,4,5,6,7,8]⟩,
⟨some 5,5,.mv (.k (.c (.s (.pv (.int .i64 0))))),none,[9,0,1,2,3,4,5,6,7,8,9]⟩])
.ret)))))))
theorem fn120 : FnIs Tryz.prog 120 ac120 [.cell 4 true 5,.t 5] 42 := ⟨Tryz.f120,Tryz.func120,by kernel_rfl,by kernel_rfl,by kernel_rfl⟩
def ac121 : ACode := (.seq (.reg [⟨some 2,2,.box 34 5 (.t 0),none,[]⟩,
⟨some 4,4,.mk 34 5 [[.zc,.s (.pv (.int .i64 0)),.zc,.zc,.zc]],none,[]⟩,
⟨some 5,5,.mv (.k (.c (.s (.pv (.int .i64 0))))),none,[]⟩])
(.seq (.reg [⟨some 9,9,.load true 5 (.t 2),none,[]⟩,
⟨some 10,10,.mv (.t 1),none,[]⟩,
⟨some 11,11,.call 140 [.t 9,.t 10],none,[0,1]⟩,
⟨some 8,8,.mv (.t 11),none,[2]⟩,
⟨some 12,12,.ext 0 (.t 8),none,[3]⟩,
⟨some 13,13,.ext 1 (.t 8),none,[3]⟩,
⟨some 6,6,.mv (.t 12),none,[4,2,0,1,2,3,4]⟩,
⟨some 7,7,.mv (.t 13),none,[5,6,0,1,2,3,4,5,6]⟩])
(.seq (.seq (.reg [⟨some 14,14,.mv (.t 7),none,[]⟩,
⟨some 15,15,.bin false .neq (.t 14) (.k (.c (.s (.pv (.int .i64 0))))),none,[0]⟩])
(.cond (.t 15) (.seq (.reg [⟨some 16,16,.load true 5 (.t 2),none,[]⟩,
⟨some 17,17,.mv (.t 7),none,[]⟩,
⟨none,32,.store 5 (.t 4) (.t 16),none,[0,0]⟩,
⟨some 5,5,.mv (.t 17),none,[1,2,0,1,2]⟩])
.ret) .skip))
(.seq (.seq (.reg [⟨some 18,18,.fld 0 (.t 2),none,[]⟩,
⟨some 19,19,.fld 0 (.t 18),none,[0]⟩,
⟨some 20,20,.load false 1 (.t 19),none,[1]⟩,
⟨some 21,21,.mv (.t 6),none,[]⟩,
⟨some 22,22,.idx 3 (.t 20) (.t 21),none,[2,3]⟩,
⟨some 23,23,.fld 1 (.t 22),none,[4]⟩,
⟨some 24,24,.load false 1 (.t 23),none,[5]⟩,
⟨some 25,25,.bin false .gtr (.t 24) (.k (.c (.s (.pv (.int .i64 0))))),none,[6]⟩])
(.cond (.t 25) (.seq (.reg [⟨some 26,26,.load true 5 (.t 2),none,[]⟩,
⟨none,31,.store 5 (.t 4) (.t 26),none,[0,0]⟩,
⟨some 5,5,.mv (.k (.c (.s (.pv (.int .i64 6))))),none,[1,0,1]⟩])
.ret) .skip))
(.seq (.reg [⟨some 27,27,.load true 5 (.t 2),none,[]⟩,
⟨some 28,28,.mv (.t 6),none,[]⟩,
⟨some 29,29,.call 146 [.t 27,.t 28],none,[0,1]⟩,
⟨none,33,.store 5 (.t 4) (.t 29),none,[2,2,0,1,2]⟩,
⟨some 5,5,.mv (.k (.c (.s (.pv (.int .i64 0))))),none,[3,0,1,2,3]⟩])
.ret)))))
theorem fn121 : FnIs Tryz.prog 121 ac121 [.cell 4 true 5,.t 5] 30 := ⟨Tryz.f121,Tryz.func121,by kernel_rfl,by kernel_rfl,by kernel_rfl⟩
def ac123 : ACode := (.seq (.reg [⟨some 4,4,.mv (.k (.c (.s (.pv (.int .i64 0))))),none,[]⟩,
⟨some 5,5,.mv (.k (.c (.s (.pv (.bool false))))),none,[0]⟩])
(.seq (.seq (.reg [⟨some 7,7,.mv (.t 0),none,[]⟩,
⟨some 8,8,.call 45 [.t 7],none,[0]⟩,
⟨some 9,9,.not (.t 8),none,[1]⟩])
(.cond (.t 9) (.seq (.reg [⟨some 4,4,.mv (.k (.c (.s (.pv (.int .i64 0))))),none,[]⟩,
⟨some 5,5,.mv (.k (.c (.s (.pv (.bool false))))),none,[0,0]⟩])
.ret) .skip))
(.seq (.reg [⟨some 10,10,.mv (.t 0),none,[]⟩,
⟨some 11,11,.mv (.t 1),none,[]⟩,
⟨some 12,12,.call 88 [.t 10,.t 11],none,[0,1]⟩,
⟨some 6,6,.mv (.t 12),none,[2,2,0,1,2]⟩])
(.seq (.seq (.reg [⟨some 13,13,.mv (.t 6),none,[]⟩,
⟨some 14,14,.bin false .lss (.t 13) (.k (.c (.s (.pv (.int .i64 0))))),none,[0]⟩])
(.cond (.t 14) (.seq (.reg [⟨some 4,4,.mv (.k (.c (.s (.pv (.int .i64 0))))),none,[]⟩,
⟨some 5,5,.mv (.k (.c (.s (.pv (.bool false))))),none,[0,0]⟩])
.ret) .skip))
(.seq (.reg [⟨some 15,15,.mv (.t 0),none,[]⟩,
⟨some 16,16,.mv (.t 6),none,[]⟩,
⟨some 17,17,.idx 2 (.t 15) (.t 16),none,[0,1]⟩,
⟨some 18,18,.fld 1 (.t 17),none,[2]⟩,
⟨some 19,19,.load false 1 (.t 18),none,[3]⟩,
⟨some 4,4,.mv (.t 19),none,[4,0,1,2,3,4]⟩,
⟨some 5,5,.mv (.k (.c (.s (.pv (.bool true))))),none,[5,0,1,2,3,4,5]⟩])
.ret)))))
theorem fn123 : FnIs Tryz.prog 123 ac123 [.t 4,.t 5] 20 := ⟨Tryz.f123,Tryz.func123,by kernel_rfl,by kernel_rfl,by kernel_rfl⟩
def ac125 : ACode := (.seq (.reg [⟨some 6,6,.mv (.k (.c .zc)),none,[]⟩])
(.seq (.seq (.reg [⟨some 10,10,.mv (.t 0),none,[]⟩,
⟨some 11,11,.call 45 [.t 10],none,[0]⟩,
⟨some 12,12,.not (.t 11),none,[1]⟩,
⟨some 13,13,.mv (.t 12),none,[2,1]⟩,
⟨some 14,14,.mv (.t 2),(some (13,false)),[3]⟩,
⟨some 15,15,.bin false .lss (.t 14) (.k (.c (.s (.pv (.int .i64 0))))),(some (13,false)),[4,3]⟩,
⟨some 16,16,.pick (.t 13) (.k (.c (.s (.pv (.bool true))))) (.t 15),none,[3,5]⟩])
(.cond (.t 16) (.seq (.reg [⟨some 6,6,.mv (.k (.c .zc)),none,[]⟩])
.ret) .skip))
(.seq (.reg [⟨some 7,7,.mv (.k (.c .zc)),none,[]⟩])
(.seq (.seq (.reg [⟨some 17,17,.mv (.t 0),none,[]⟩,
⟨some 18,18,.len (.t 17),none,[0]⟩,
⟨some 19,19,.mv (.k (.c (.s (.pv (.int .i64 0))))),none,[]⟩])
(.block 0 (.loop (.seq (.reg [⟨some 20,20,.bin false .lss (.t 19) (.t 18),none,[]⟩])
(.seq (.cond (.t 20) .skip (.exit 0))
(.seq (.block 1 (.seq (.reg [⟨some 21,21,.idx 2 (.t 17) (.t 19),none,[]⟩,
⟨some 22,22,.load true 2 (.t 21),none,[0]⟩,
⟨some 9,9,.mk 64 2 [[.s (.pv (.int .i64 0)),.s (.pv (.int .i64 0))]],none,[]⟩,
⟨none,45,.store 2 (.t 9) (.t 22),none,[2,1,0,1,2]⟩])
(.seq (.reg [⟨some 23,23,.mv (.t 1),none,[]⟩,
⟨some 24,24,.fld 1 (.t 9),none,[]⟩,
⟨some 25,25,.load false 1 (.t 24),none,[1]⟩,
⟨some 26,26,.bin false .geq (.t 23) (.t 25),none,[0,2]⟩,
⟨some 27,27,.mv (.t 26),none,[3]⟩,
⟨some 28,28,.mv (.t 1),(some (27,true)),[4]⟩,
⟨some 29,29,.fld 1 (.t 9),(some (27,true)),[4]⟩,
⟨some 30,30,.load false 1 (.t 29),(some (27,true)),[6,4]⟩,
⟨some 31,31,.bin false .sub (.t 28) (.t 30),(some (27,true)),[5,7,4]⟩,
⟨some 32,32,.mv (.t 2),(some (27,true)),[4]⟩,
⟨some 33,33,.bin false .geq (.t 31) (.t 32),(some (27,true)),[8,9,4]⟩,
⟨some 34,34,.pick (.t 27) (.t 33) (.k (.c (.s (.pv (.bool false))))),none,[4,10]⟩])
(.cond (.t 34) (.reg [⟨some 35,35,.mv (.t 7),none,[]⟩,
⟨some 36,36,.fld 0 (.t 9),none,[]⟩,
⟨some 37,37,.load false 1 (.t 36),none,[1]⟩,
⟨some 38,38,.bslice 3 1 [.s (.pv (.int .i64 0))] 1 [(0,1,(.t 37))],none,[2]⟩,
⟨some 39,39,.app 3 1 8 (.t 35) (.t 38),none,[0,3]⟩,
⟨some 7,7,.mv (.t 39),none,[4,4,0,1,2,3,4]⟩]) .skip))))
(.reg [⟨some 40,40,.bin false .add (.t 19) (.k (.c (.s (.pv (.int .i64 1))))),none,[]⟩,
⟨some 19,19,.mv (.t 40),none,[0]⟩])))))))
(.seq (.reg [⟨some 41,41,.mv (.t 7),none,[]⟩,
⟨some 6,6,.mv (.t 41),none,[0,0]⟩])
.ret)))))
theorem fn125 : FnIs Tryz.prog 125 ac125 [.t 6] 42 := ⟨Tryz.f125,Tryz.func125,by kernel_rfl,by kernel_rfl,by kernel_rfl⟩
def ac126 : ACode := (.seq (.reg [⟨some 4,4,.mv (.k (.c (.s (.pv (.int .i64 0))))),none,[]⟩])
(.seq (.seq (.reg [⟨some 6,6,.mv (.t 0),none,[]⟩,
⟨some 7,7,.len (.t 6),none,[0]⟩,
⟨some 8,8,.mv (.k (.c (.s (.pv (.int .i64 0))))),none,[]⟩])
(.block 0 (.loop (.seq (.reg [⟨some 9,9,.bin false .lss (.t 8) (.t 7),none,[]⟩])
(.seq (.cond (.t 9) .skip (.exit 0))
(.seq (.block 1 (.seq (.reg [⟨some 10,10,.mv (.t 8),none,[]⟩,
⟨some 5,5,.mv (.t 10),none,[0,0]⟩])
(.seq (.reg [⟨some 11,11,.mv (.t 1),none,[]⟩,
⟨some 12,12,.mv (.t 0),none,[]⟩,
⟨some 13,13,.mv (.t 5),none,[]⟩,
⟨some 14,14,.idx 2 (.t 12) (.t 13),none,[1,2]⟩,
⟨some 15,15,.load true 2 (.t 14),none,[3]⟩,
⟨some 16,16,.callv (.t 11) [.t 15],none,[0,4]⟩])
(.cond (.t 16) (.seq (.reg [⟨some 17,17,.mv (.t 5),none,[]⟩,
⟨some 4,4,.mv (.t 17),none,[0,0]⟩])
.ret) .skip))))
(.reg [⟨some 18,18,.bin false .add (.t 8) (.k (.c (.s (.pv (.int .i64 1))))),none,[]⟩,
⟨some 8,8,.mv (.t 18),none,[0]⟩])))))))
(.seq (.reg [⟨some 4,4,.mv (.k (.c (.s (.pv (.int .i64 (-1)))))),none,[]⟩])
.ret)))
theorem fn126 : FnIs Tryz.prog 126 ac126 [.t 4] 19 := ⟨Tryz.f126,Tryz.func126,by kernel_rfl,by kernel_rfl,by kernel_rfl⟩
def ac127 : ACode := (.seq (.reg [⟨some 2,2,.box 64 2 (.t 0),none,[]⟩,
⟨some 3,3,.mv (.k (.c (.s (.pv (.bool false))))),none,[]⟩])
(.seq (.reg [⟨some 4,4,.fld 0 (.t 2),none,[]⟩,
⟨some 5,5,.load false 1 (.t 4),none,[0]⟩,
⟨some 6,6,.load false 1 (.t 1),none,[]⟩,
⟨some 7,7,.bin false .eql (.t 5) (.t 6),none,[1,2]⟩,
⟨some 3,3,.mv (.t 7),none,[3,0,1,2,3]⟩])
.ret))
theorem fn127 : FnIs Tryz.prog 127 ac127 [.t 3] 8 := ⟨Tryz.f127,Tryz.func127,by kernel_rfl,by kernel_rfl,by kernel_rfl⟩
def ac139 : ACode := (.seq (.reg [⟨some 2,2,.box 34 5 (.t 0),none,[]⟩,
⟨some 4,4,.mv (.k (.c (.s (.pv (.int .i64 0))))),none,[]⟩,
⟨some 5,5,.mv (.k (.c (.s (.pv (.bool false))))),none,[1]⟩])
(.seq (.seq (.reg [⟨some 6,6,.load true 5 (.t 2),none,[]⟩,
⟨some 7,7,.call 21 [.t 6],none,[0]⟩,
⟨some 8,8,.not (.t 7),none,[1]⟩])
(.cond (.t 8) (.seq (.reg [⟨some 4,4,.mv (.k (.c (.s (.pv (.int .i64 0))))),none,[]⟩,
⟨some 5,5,.mv (.k (.c (.s (.pv (.bool false))))),none,[0,0]⟩])
.ret) .skip))
(.seq (.reg [⟨some 9,9,.fld 2 (.t 2),none,[]⟩,
⟨some 10,10,.load true 1 (.t 9),none,[0]⟩,
⟨some 11,11,.mv (.t 1),none,[]⟩,
⟨some 12,12,.call 48 [.t 10,.t 11],none,[1,2]⟩,
⟨some 13,13,.ext 0 (.t 12),none,[3]⟩,
⟨some 14,14,.ext 1 (.t 12),none,[3]⟩,
⟨some 4,4,.mv (.t 13),none,[4,3,0,1,2,3,4,5]⟩,
⟨some 5,5,.mv (.t 14),none,[5,6,0,1,2,3,4,5,6]⟩])
.ret)))
theorem fn139 : FnIs Tryz.prog 139 ac139 [.t 4,.t 5] 15 := ⟨Tryz.f139,Tryz.func139,by kernel_rfl,by kernel_rfl,by kernel_rfl⟩
def ac140 : ACode := (.seq (.reg [⟨some 2,2,.box 34 5 (.t 0),none,[]⟩,
⟨some 4,4,.mv (.k (.c (.s (.pv (.int .i64 0))))),none,[]⟩,
⟨some 5,5,.mv (.k (.c (.s (.pv (.int .i64 0))))),none,[1]⟩])
(.seq (.seq (.reg [⟨some 8,8,.load true 5 (.t 2),none,[]⟩,
⟨some 9,9,.call 21 [.t 8],none,[0]⟩,
⟨some 10,10,.not (.t 9),none,[1]⟩])
(.cond (.t 10) (.seq (.reg [⟨some 4,4,.mv (.k (.c (.s (.pv (.int .i64 0))))),none,[]⟩,
⟨some 5,5,.mv (.k (.c (.s (.pv (.int .i64 1))))),none,[0,0]⟩])
.ret) .skip))
(.seq (.reg [⟨some 12,12,.fld 2 (.t 2),none,[]⟩,
⟨some 13,13,.load true 1 (.t 12),none,[0]⟩,
⟨some 14,14,.mv (.t 1),none,[]⟩,
⟨some 15,15,.call 48 [.t 13,.t 14],none,[1,2]⟩,
⟨some 11,11,.mv (.t 15),none,[3]⟩,
⟨some 16,16,.ext 0 (.t 11),none,[4]⟩,
⟨some 17,17,.ext 1 (.t 11),none,[4]⟩,
⟨some 6,6,.mv (.t 16),none,[5,3,0,1,2,3,4,5]⟩,
⟨some 7,7,.mv (.t 17),none,[6,7,0,1,2,3,4,5,6,7]⟩])
(.seq (.seq (.reg [⟨some 18,18,.mv (.t 7),none,[]⟩,
⟨some 19,19,.not (.t 18),none,[0]⟩])
(.cond (.t 19) (.seq (.reg [⟨some 4,4,.mv (.k (.c (.s (.pv (.int .i64 0))))),none,[]⟩,
⟨some 5,5,.mv (.k (.c (.s (.pv (.int .i64 3))))),none,[0,0]⟩])
.ret) .skip))
(.seq (.reg [⟨some 20,20,.mv (.t 6),none,[]⟩,
⟨some 4,4,.mv (.t 20),none,[0,0]⟩,
⟨some 5,5,.mv (.k (.c (.s (.pv (.int .i64 0))))),none,[1,0,1]⟩])
.ret)))))
theorem fn140 : FnIs Tryz.prog 140 ac140 [.t 4,.t 5] 21 := ⟨Tryz.f140,Tryz.func140,by kernel_rfl,by kernel_rfl,by kernel_rfl⟩
def ac141 : ACode := (.seq (.reg [⟨some 4,4,.box 34 5 (.t 0),none,[]⟩,
⟨some 6,6,.box 153 3 (.t 2),none,[]⟩,
⟨some 7,7,.box 42 3 (.t 3),none,[]⟩,
⟨some 8,8,.mk 34 5 [[.zc,.s (.pv (.int .i64 0)),.zc,.zc,.zc]],none,[]⟩])
(.seq (.reg [⟨some 9,9,.fld 0 (.t 4),none,[]⟩,
⟨some 10,10,.fld 0 (.t 9),none,[0]⟩,
⟨some 11,11,.load false 1 (.t 10),none,[1]⟩,
⟨some 12,12,.call 165 [.t 11],none,[2]⟩,
⟨some 13,13,.fld 0 (.t 4),none,[0,1,2,3]⟩,
⟨some 14,14,.fld 0 (.t 13),none,[4,0,1,2,3]⟩,
⟨none,37,.store 1 (.t 14) (.t 12),none,[5,3,3,0,1,2,3]⟩])
(.seq (.reg [⟨some 15,15,.fld 0 (.t 4),none,[]⟩,
⟨some 16,16,.fld 0 (.t 15),none,[0]⟩,
⟨some 17,17,.load false 1 (.t 16),none,[1]⟩,
⟨some 18,18,.mv (.t 1),none,[]⟩,
⟨some 19,19,.load true 3 (.t 6),none,[]⟩,
⟨some 20,20,.idx 3 (.t 17) (.t 18),none,[2,3,0,1,2,3,4]⟩,
⟨none,37,.store 3 (.t 20) (.t 19),none,[5,4,0,1,2,3,4]⟩])
(.seq (.reg [⟨some 21,21,.fld 3 (.t 4),none,[]⟩,
⟨some 22,22,.load false 1 (.t 21),none,[0]⟩,
⟨some 23,23,.call 166 [.t 22],none,[1]⟩,
⟨some 24,24,.fld 3 (.t 4),none,[0,1,2]⟩,
⟨none,35,.store 1 (.t 24) (.t 23),none,[3,2,2,0,1,2]⟩])
(.seq (.reg [⟨some 25,25,.fld 3 (.t 4),none,[]⟩,
⟨some 26,26,.load false 1 (.t 25),none,[0]⟩,
⟨some 27,27,.mv (.t 1),none,[]⟩,
⟨some 28,28,.load true 3 (.t 7),none,[]⟩,
⟨some 29,29,.idx 3 (.t 26) (.t 27),none,[1,2,0,1,2,3]⟩,
⟨none,36,.store 3 (.t 29) (.t 28),none,[4,3,0,1,2,3]⟩])
(.seq (.reg [⟨some 30,30,.load true 5 (.t 4),none,[]⟩,
⟨none,32,.store 5 (.t 8) (.t 30),none,[0,0]⟩])
.ret))))))
theorem fn141 : FnIs Tryz.prog 141 ac141 [.cell 8 true 5] 31 := ⟨Tryz.f141,Tryz.func141,by kernel_rfl,by kernel_rfl,by kernel_rfl⟩
def ac144 : ACode := (.seq (.reg [⟨some 4,4,.box 34 5 (.t 0),none,[]⟩,
⟨some 5,5,.box 42 3 (.t 1),none,[]⟩,
⟨some 8,8,.mk 34 5 [[.zc,.s (.pv (.int .i64 0)),.zc,.zc,.zc]],none,[]⟩,
⟨some 9,9,.mv (.k (.c (.s (.pv (.int .i64 0))))),none,[]⟩])
(.seq (.seq (.reg [⟨some 15,15,.load true 5 (.t 4),none,[]⟩,
⟨some 16,16,.call 21 [.t 15],none,[0]⟩,
⟨some 17,17,.not (.t 16),none,[1]⟩,
⟨some 18,18,.mv (.t 17),none,[2,1]⟩,
⟨some 19,19,.load true 3 (.t 5),(some (18,false)),[3]⟩,
⟨some 20,20,.call 89 [.t 19],(some (18,false)),[4,3,3]⟩,
⟨some 21,21,.not (.t 20),(some (18,false)),[5,3]⟩,
⟨some 22,22,.pick (.t 18) (.k (.c (.s (.pv (.bool true))))) (.t 21),none,[3,6]⟩,
⟨some 23,23,.mv (.t 22),none,[7,5]⟩,
⟨some 24,24,.mv (.t 2),(some (23,false)),[8]⟩,
⟨some 25,25,.bin false .lss (.t 24) (.k (.c (.s (.pv (.int .i64 0))))),(some (23,false)),[9,8]⟩,
⟨some 26,26,.pick (.t 23) (.k (.c (.s (.pv (.bool true))))) (.t 25),none,[8,10]⟩,
⟨some 27,27,.mv (.t 26),none,[11,8]⟩,
⟨some 28,28,.mv (.t 2),(some (27,false)),[12]⟩,
⟨some 29,29,.bin false .gtr (.t 28) (.k (.c (.s (.pv (.int .i64 2147483647))))),(some (27,false)),[13,12]⟩,
⟨some 30,30,.pick (.t 27) (.k (.c (.s (.pv (.bool true))))) (.t 29),none,[12,14]⟩])
(.cond (.t 30) (.seq (.reg [⟨some 31,31,.load true 5 (.t 4),none,[]⟩,
⟨none,79,.store 5 (.t 8) (.t 31),none,[0,0]⟩,
⟨some 9,9,.mv (.k (.c (.s (.pv (.int .i64 1))))),none,[1,0,1]⟩])
.ret) .skip))
(.seq (.seq (.reg [⟨some 33,33,.fld 2 (.t 4),none,[]⟩,
⟨some 34,34,.load true 1 (.t 33),none,[0]⟩,
⟨some 35,35,.fld 0 (.t 5),none,[]⟩,
⟨some 36,36,.load false 1 (.t 35),none,[2]⟩,
⟨some 37,37,.call 48 [.t 34,.t 36],none,[1,3]⟩,
⟨some 32,32,.mv (.t 37),none,[4]⟩,
⟨some 38,38,.ext 0 (.t 32),none,[5]⟩,
⟨some 39,39,.ext 1 (.t 32),none,[5]⟩,
⟨some 10,10,.mv (.t 38),none,[6,4,0,1,2,3,4,5,6]⟩,
⟨some 11,11,.mv (.t 39),none,[7,8,0,1,2,3,4,5,6,7,8]⟩])
(.seq (.reg [⟨some 40,40,.mv (.t 11),none,[]⟩])
(.cond (.t 40) (.seq (.reg [⟨some 41,41,.load true 5 (.t 4),none,[]⟩,
⟨none,79,.store 5 (.t 8) (.t 41),none,[0,0]⟩,
⟨some 9,9,.mv (.k (.c (.s (.pv (.int .i64 4))))),none,[1,0,1]⟩])
.ret) .skip)))
(.seq (.reg [⟨some 42,42,.load true 5 (.t 4),none,[]⟩,
⟨some 43,43,.call 170 [.t 42],none,[0]⟩,
⟨some 12,12,.mv (.t 43),none,[1,1,0,1]⟩])
(.seq (.seq (.reg [⟨some 44,44,.mv (.t 12),none,[]⟩,
⟨some 45,45,.bin false .lss (.t 44) (.k (.c (.s (.pv (.int .i64 0))))),none,[0]⟩])
(.cond (.t 45) (.seq (.reg [⟨some 46,46,.load true 5 (.t 4),none,[]⟩,
⟨none,79,.store 5 (.t 8) (.t 46),none,[0,0]⟩,
⟨some 9,9,.mv (.k (.c (.s (.pv (.int .i64 7))))),none,[1,0,1]⟩])
.ret) .skip))
(.seq (.reg [⟨some 47,47,.load true 5 (.t 4),none,[]⟩,
⟨some 48,48,.mv (.t 12),none,[]⟩,
⟨some 49,49,.fld 0 (.t 5),none,[]⟩,
⟨some 50,50,.load false 1 (.t 49),none,[2]⟩,
⟨some 51,51,.build [.s (.pv (.int .i64 0)),.s (.pv (.int .i64 0)),.s (.pv (.bool false))] [(0,1,(.t 50)),(1,1,(.k (.c (.s (.pv (.int .i64 1)))))),(2,1,(.k (.c (.s (.pv (.bool true))))))],none,[3]⟩,
⟨some 52,52,.load true 3 (.t 5),none,[]⟩,
⟨some 53,53,.call 141 [.t 47,.t 48,.t 51,.t 52],none,[0,1,4,5]⟩,
⟨some 13,13,.mk 34 5 [[.zc,.s (.pv (.int .i64 0)),.zc,.zc,.zc]],none,[]⟩,
⟨none,86,.store 5 (.t 13) (.t 53),none,[7,6,6,0,1,2,3,4,5,6,7]⟩])
(.seq (.reg [⟨some 55,55,.fld 2 (.t 4),none,[]⟩,
⟨some 56,56,.load true 1 (.t 55),none,[0]⟩,
⟨some 57,57,.fld 0 (.t 5),none,[]⟩,
⟨some 58,58,.load false 1 (.t 57),none,[2]⟩,
⟨some 59,59,.mv (.t 12),none,[]⟩,
⟨some 60,60,.call 171 [.t 56,.t 58,.t 59],none,[1,3,4]⟩,
⟨some 54,54,.mv (.t 60),none,[5]⟩,
⟨some 61,61,.ext 0 (.t 54),none,[6]⟩,
⟨some 62,62,.ext 1 (.t 54),none,[6]⟩,
⟨some 63,63,.fld 2 (.t 13),none,[0,1,2,3,4,5,6,7]⟩,
⟨none,88,.store 1 (.t 63) (.t 61),none,[9,7,5,0,1,2,3,4,5,6,7]⟩])
(.seq (.seq (.reg [⟨some 64,64,.mv (.t 3),none,[]⟩])
(.cond (.t 64) (.seq (.reg [⟨some 14,14,.mv (.k (.c (.s (.pv (.int .i64 0))))),none,[]⟩])
(.seq (.reg [⟨some 66,66,.load true 5 (.t 13),none,[]⟩,
⟨some 67,67,.fld 0 (.t 5),none,[]⟩,
⟨some 68,68,.load false 1 (.t 67),none,[1]⟩,
⟨some 69,69,.mv (.t 2),none,[]⟩,
⟨some 70,70,.call 145 [.t 66,.t 68,.t 69],none,[0,2,3]⟩,
⟨some 65,65,.mv (.t 70),none,[4]⟩,
⟨some 71,71,.ext 0 (.t 65),none,[5]⟩,
⟨some 72,72,.ext 1 (.t 65),none,[5]⟩,
⟨none,86,.store 5 (.t 13) (.t 71),none,[6,4,0,1,2,3,4,5,6]⟩,
⟨some 14,14,.mv (.t 72),none,[7,8,0,1,2,3,4,5,6,7,8]⟩])
(.seq (.reg [⟨some 73,73,.mv (.t 14),none,[]⟩,
⟨some 74,74,.bin false .neq (.t 73) (.k (.c (.s (.pv (.int .i64 0))))),none,[0]⟩])
(.cond (.t 74) (.seq (.reg [⟨some 75,75,.load true 5 (.t 4),none,[]⟩,
⟨some 76,76,.mv (.t 14),none,[]⟩,
⟨none,80,.store 5 (.t 8) (.t 75),none,[0,0]⟩,
⟨some 9,9,.mv (.t 76),none,[1,2,0,1,2]⟩])
.ret) .skip)))) .skip))
(.seq (.reg [⟨some 77,77,.load true 5 (.t 13),none,[]⟩,
⟨none,79,.store 5 (.t 8) (.t 77),none,[0,0]⟩,
⟨some 9,9,.mv (.k (.c (.s (.pv (.int .i64 0))))),none,[1,0,1]⟩])
.ret)))))))))
theorem fn144 : FnIs Tryz.prog 144 ac144 [.cell 8 true 5,.t 9] 78 := ⟨Tryz.f144,Tryz.func144,by kernel_rfl,by kernel_rfl,by kernel_rfl⟩
def ac145 : ACode := (.seq (.reg [⟨some 3,3,.box 34 5 (.t 0),none,[]⟩,
⟨some 6,6,.mk 34 5 [[.zc,.s (.pv (.int .i64 0)),.zc,.zc,.zc]],none,[]⟩,
⟨some 7,7,.mv (.k (.c (.s (.pv (.int .i64 0))))),none,[]⟩])
(.seq (.reg [⟨some 11,11,.fld 4 (.t 3),none,[]⟩,
⟨some 12,12,.load false 1 (.t 11),none,[0]⟩,
⟨some 13,13,.mv (.t 1),none,[]⟩,
⟨some 14,14,.mv (.t 2),none,[]⟩,
⟨some 15,15,.call 172 [.t 12,.t 13,.t 14],none,[1,2,3]⟩,
⟨some 10,10,.mv (.t 15),none,[4]⟩,
⟨some 16,16,.ext 0 (.t 10),none,[5]⟩,
⟨some 17,17,.ext 1 (.t 10),none,[5]⟩,
⟨some 8,8,.mv (.t 16),none,[6,4,0,1,2,3,4,5,6]⟩,
⟨some 9,9,.mv (.t 17),none,[7,8,0,1,2,3,4,5,6,7,8]⟩])
(.seq (.reg [⟨some 18,18,.mv (.t 8),none,[]⟩,
⟨some 19,19,.fld 4 (.t 3),none,[0]⟩,
⟨none,24,.store 1 (.t 19) (.t 18),none,[1,0,0]⟩])
(.seq (.reg [⟨some 20,20,.load true 5 (.t 3),none,[]⟩,
⟨some 21,21,.mv (.t 9),none,[]⟩,
⟨none,24,.store 5 (.t 6) (.t 20),none,[0,0]⟩,
⟨some 7,7,.mv (.t 21),none,[1,2,0,1,2]⟩])
.ret))))
theorem fn145 : FnIs Tryz.prog 145 ac145 [.cell 6 true 5,.t 7] 22 := ⟨Tryz.f145,Tryz.func145,by kernel_rfl,by kernel_rfl,by kernel_rfl⟩
def ac146 : ACode := (.seq (.reg [⟨some 2,2,.box 34 5 (.t 0),none,[]⟩,
⟨some 4,4,.mk 34 5 [[.zc,.s (.pv (.int .i64 0)),.zc,.zc,.zc]],none,[]⟩])
(.seq (.reg [⟨some 6,6,.fld 3 (.t 2),none,[]⟩,
⟨some 7,7,.load false 1 (.t 6),none,[0]⟩,
⟨some 8,8,.mv (.t 1),none,[]⟩,
⟨some 9,9,.idx 3 (.t 7) (.t 8),none,[1,2]⟩,
⟨some 10,10,.fld 0 (.t 9),none,[3]⟩,
⟨some 11,11,.load false 1 (.t 10),none,[4]⟩,
⟨some 5,5,.mv (.t 11),none,[5,0,1,2,3,4,5]⟩])
(.seq (.reg [⟨some 12,12,.load true 5 (.t 2),none,[]⟩,
⟨some 13,13,.mv (.t 1),none,[]⟩,
⟨some 14,14,.build [.s (.pv (.int .i64 0)),.s (.pv (.int .i64 0)),.s (.pv (.bool false))] [],none,[]⟩,
⟨some 15,15,.build [.s (.pv (.int .i64 0)),.s (.pv (.int .i64 0)),.s (.pv (.string ⟨#[]⟩))] [],none,[]⟩,
⟨some 16,16,.call 141 [.t 12,.t 13,.t 14,.t 15],none,[0,1,2,3]⟩,
⟨none,39,.store 5 (.t 2) (.t 16),none,[4,4,0,1,2,3,4]⟩])
(.seq (.reg [⟨some 18,18,.fld 2 (.t 2),none,[]⟩,
⟨some 19,19,.load true 1 (.t 18),none,[0]⟩,
⟨some 20,20,.mv (.t 5),none,[]⟩,
⟨some 21,21,.call 173 [.t 19,.t 20],none,[1,2]⟩,
⟨some 17,17,.mv (.t 21),none,[3]⟩,
⟨some 22,22,.ext 0 (.t 17),none,[4]⟩,
⟨some 23,23,.ext 1 (.t 17),none,[4]⟩,
⟨some 24,24,.fld 2 (.t 2),none,[0,1,2,3,4,5]⟩,
⟨none,42,.store 1 (.t 24) (.t 22),none,[7,5,3,0,1,2,3,4,5]⟩])
(.seq (.reg [⟨some 26,26,.fld 4 (.t 2),none,[]⟩,
⟨some 27,27,.load false 1 (.t 26),none,[0]⟩,
⟨some 28,28,.mv (.t 5),none,[]⟩,
⟨some 29,29,.call 174 [.t 27,.t 28],none,[1,2]⟩,
⟨some 25,25,.mv (.t 29),none,[3]⟩,
⟨some 30,30,.ext 0 (.t 25),none,[4]⟩,
⟨some 31,31,.ext 1 (.t 25),none,[4]⟩,
⟨some 32,32,.fld 4 (.t 2),none,[0,1,2,3,4,5]⟩,
⟨none,42,.store 1 (.t 32) (.t 30),none,[7,5,3,0,1,2,3,4,5]⟩])
(.seq (.reg [⟨some 33,33,.load true 5 (.t 2),none,[]⟩,
⟨none,35,.store 5 (.t 4) (.t 33),none,[0,0]⟩])
.ret))))))
theorem fn146 : FnIs Tryz.prog 146 ac146 [.cell 4 true 5] 34 := ⟨Tryz.f146,Tryz.func146,by kernel_rfl,by kernel_rfl,by kernel_rfl⟩
def ac150 : ACode := (.seq (.reg [⟨some 2,2,.box 34 5 (.t 0),none,[]⟩,
⟨some 4,4,.mk 34 5 [[.zc,.s (.pv (.int .i64 0)),.zc,.zc,.zc]],none,[]⟩,
⟨some 5,5,.mv (.k (.c (.s (.pv (.int .i64 0))))),none,[]⟩])
(.seq (.seq (.reg [⟨some 11,11,.load true 5 (.t 2),none,[]⟩,
⟨some 12,12,.mv (.t 1),none,[]⟩,
⟨some 13,13,.call 140 [.t 11,.t 12],none,[0,1]⟩,
⟨some 10,10,.mv (.t 13),none,[2]⟩,
⟨some 14,14,.ext 0 (.t 10),none,[3]⟩,
⟨some 15,15,.ext 1 (.t 10),none,[3]⟩,
⟨some 6,6,.mv (.t 14),none,[4,2,0,1,2,3,4]⟩,
⟨some 7,7,.mv (.t 15),none,[5,6,0,1,2,3,4,5,6]⟩])
(.seq (.reg [⟨some 16,16,.mv (.t 7),none,[]⟩,
⟨some 17,17,.bin false .neq (.t 16) (.k (.c (.s (.pv (.int .i64 0))))),none,[0]⟩])
(.cond (.t 17) (.seq (.reg [⟨some 18,18,.load true 5 (.t 2),none,[]⟩,
⟨some 19,19,.mv (.t 7),none,[]⟩,
⟨none,35,.store 5 (.t 4) (.t 18),none,[0,0]⟩,
⟨some 5,5,.mv (.t 19),none,[1,2,0,1,2]⟩])
.ret) .skip)))
(.seq (.reg [⟨some 21,21,.fld 4 (.t 2),none,[]⟩,
⟨some 22,22,.load false 1 (.t 21),none,[0]⟩,
⟨some 23,23,.mv (.t 1),none,[]⟩,
⟨some 24,24,.call 174 [.t 22,.t 23],none,[1,2]⟩,
⟨some 20,20,.mv (.t 24),none,[3]⟩,
⟨some 25,25,.ext 0 (.t 20),none,[4]⟩,
⟨some 26,26,.ext 1 (.t 20),none,[4]⟩,
⟨some 8,8,.mv (.t 25),none,[5,3,0,1,2,3,4,5]⟩,
⟨some 9,9,.mv (.t 26),none,[6,7,0,1,2,3,4,5,6,7]⟩])
(.seq (.seq (.reg [⟨some 27,27,.mv (.t 9),none,[]⟩,
⟨some 28,28,.bin false .neq (.t 27) (.k (.c (.s (.pv (.int .i64 0))))),none,[0]⟩])
(.cond (.t 28) (.seq (.reg [⟨some 29,29,.load true 5 (.t 2),none,[]⟩,
⟨none,34,.store 5 (.t 4) (.t 29),none,[0,0]⟩,
⟨some 5,5,.mv (.k (.c (.s (.pv (.int .i64 12))))),none,[1,0,1]⟩])
.ret) .skip))
(.seq (.reg [⟨some 30,30,.mv (.t 8),none,[]⟩,
⟨some 31,31,.fld 4 (.t 2),none,[0]⟩,
⟨none,35,.store 1 (.t 31) (.t 30),none,[1,0,0]⟩])
(.seq (.reg [⟨some 32,32,.load true 5 (.t 2),none,[]⟩,
⟨none,34,.store 5 (.t 4) (.t 32),none,[0,0]⟩,
⟨some 5,5,.mv (.k (.c (.s (.pv (.int .i64 0))))),none,[1,0,1]⟩])
.ret))))))
theorem fn150 : FnIs Tryz.prog 150 ac150 [.cell 4 true 5,.t 5] 33 := ⟨Tryz.f150,Tryz.func150,by kernel_rfl,by kernel_rfl,by kernel_rfl⟩
def ac165 : ACode := (.seq (.reg [⟨some 2,2,.mv (.k (.c .zc)),none,[]⟩])
(.seq (.seq (.reg [⟨some 3,3,.mv (.t 0),none,[]⟩,
⟨some 4,4,.isnil (.t 3),none,[0]⟩])
(.cond (.t 4) (.seq (.reg [⟨some 2,2,.mv (.k (.c .zc)),none,[]⟩])
.ret) .skip))
(.seq (.reg [⟨some 5,5,.bslice 153 3 [.s (.pv (.int .i64 0)),.s (.pv (.int .i64 0)),.s (.pv (.bool false))] 0 [],none,[]⟩,
⟨some 6,6,.mv (.t 0),none,[]⟩,
⟨some 7,7,.app 153 3 24 (.t 5) (.t 6),none,[0,1]⟩,
⟨some 2,2,.mv (.t 7),none,[2,2,0,1,2]⟩])
.ret)))
theorem fn165 : FnIs Tryz.prog 165 ac165 [.t 2] 8 := ⟨Tryz.f165,Tryz.func165,by kernel_rfl,by kernel_rfl,by kernel_rfl⟩
def ac166 : ACode := (.seq (.reg [⟨some 2,2,.mv (.k (.c .zc)),none,[]⟩])
(.seq (.seq (.reg [⟨some 3,3,.mv (.t 0),none,[]⟩,
⟨some 4,4,.isnil (.t 3),none,[0]⟩])
(.cond (.t 4) (.seq (.reg [⟨some 2,2,.mv (.k (.c .zc)),none,[]⟩])
.ret) .skip))
(.seq (.reg [⟨some 5,5,.bslice 42 3 [.s (.pv (.int .i64 0)),.s (.pv (.int .i64 0)),.s (.pv (.string ⟨#[]⟩))] 0 [],none,[]⟩,
⟨some 6,6,.mv (.t 0),none,[]⟩,
⟨some 7,7,.app 42 3 32 (.t 5) (.t 6),none,[0,1]⟩,
⟨some 2,2,.mv (.t 7),none,[2,2,0,1,2]⟩])
.ret)))
theorem fn166 : FnIs Tryz.prog 166 ac166 [.t 2] 8 := ⟨Tryz.f166,Tryz.func166,by kernel_rfl,by kernel_rfl,by kernel_rfl⟩
def ac169 : ACode := (.seq (.reg [⟨some 1,1,.box 34 5 (.t 0),none,[]⟩,
⟨some 2,2,.mk 34 5 [[.zc,.s (.pv (.int .i64 0)),.zc,.zc,.zc]],none,[]⟩,
⟨some 3,3,.mk 42 3 [[.s (.pv (.int .i64 0)),.s (.pv (.int .i64 0)),.s (.pv (.string ⟨#[]⟩))]],none,[]⟩,
⟨some 4,4,.mv (.k (.c (.s (.pv (.bool false))))),none,[]⟩,
⟨some 5,5,.mv (.k (.c (.s (.pv (.int .i64 0))))),none,[3]⟩])
(.seq (.seq (.reg [⟨some 12,12,.load true 5 (.t 1),none,[]⟩,
⟨some 13,13,.call 21 [.t 12],none,[0]⟩,
⟨some 14,14,.not (.t 13),none,[1]⟩])
(.cond (.t 14) (.seq (.reg [⟨some 15,15,.load true 5 (.t 1),none,[]⟩,
⟨some 16,16,.build [.s (.pv (.int .i64 0)),.s (.pv (.int .i64 0)),.s (.pv (.string ⟨#[]⟩))] [],none,[]⟩,
⟨none,57,.store 5 (.t 2) (.t 15),none,[0,0]⟩,
⟨none,58,.store 3 (.t 3) (.t 16),none,[1,2,0,1,2]⟩,
⟨some 4,4,.mv (.k (.c (.s (.pv (.bool false))))),none,[3,0,1,2,3]⟩,
⟨some 5,5,.mv (.k (.c (.s (.pv (.int .i64 1))))),none,[4,0,1,2,3,4]⟩])
.ret) .skip))
(.seq (.seq (.reg [⟨some 17,17,.load true 5 (.t 1),none,[]⟩,
⟨some 18,18,.call 170 [.t 17],none,[0]⟩,
⟨some 19,19,.bin false .geq (.t 18) (.k (.c (.s (.pv (.int .i64 0))))),none,[1]⟩])
(.cond (.t 19) (.seq (.reg [⟨some 20,20,.load true 5 (.t 1),none,[]⟩,
⟨some 21,21,.build [.s (.pv (.int .i64 0)),.s (.pv (.int .i64 0)),.s (.pv (.string ⟨#[]⟩))] [],none,[]⟩,
⟨none,57,.store 5 (.t 2) (.t 20),none,[0,0]⟩,
⟨none,58,.store 3 (.t 3) (.t 21),none,[1,2,0,1,2]⟩,
⟨some 4,4,.mv (.k (.c (.s (.pv (.bool false))))),none,[3,0,1,2,3]⟩,
⟨some 5,5,.mv (.k (.c (.s (.pv (.int .i64 0))))),none,[4,0,1,2,3,4]⟩])
.ret) .skip))
(.seq (.reg [⟨some 23,23,.fld 0 (.t 1),none,[]⟩,
⟨some 24,24,.load true 2 (.t 23),none,[0]⟩,
⟨some 25,25,.call 188 [.t 24],none,[1]⟩,
⟨some 22,22,.mv (.t 25),none,[2]⟩,
⟨some 26,26,.ext 0 (.t 22),none,[3]⟩,
⟨some 27,27,.ext 1 (.t 22),none,[3]⟩,
⟨some 28,28,.ext 2 (.t 22),none,[3]⟩,
⟨some 6,6,.mk 28 2 [[.zc,.s (.pv (.int .i64 0))]],none,[]⟩,
⟨none,63,.store 2 (.t 6) (.t 26),none,[7,4,2,0,1,2,3,4,7]⟩,
⟨some 7,7,.mv (.t 27),none,[5,8,0,1,2,3,4,5,7,8]⟩,
⟨some 8,8,.mv (.t 28),none,[6,9,0,1,2,3,4,5,6,7,8,9]⟩])
(.seq (.seq (.reg [⟨some 29,29,.mv (.t 8),none,[]⟩,
⟨some 30,30,.not (.t 29),none,[0]⟩])
(.cond (.t 30) (.seq (.reg [⟨some 31,31,.load true 5 (.t 1),none,[]⟩,
⟨some 32,32,.build [.s (.pv (.int .i64 0)),.s (.pv (.int .i64 0)),.s (.pv (.string ⟨#[]⟩))] [],none,[]⟩,
⟨none,57,.store 5 (.t 2) (.t 31),none,[0,0]⟩,
⟨none,58,.store 3 (.t 3) (.t 32),none,[1,2,0,1,2]⟩,
⟨some 4,4,.mv (.k (.c (.s (.pv (.bool false))))),none,[3,0,1,2,3]⟩,
⟨some 5,5,.mv (.k (.c (.s (.pv (.int .i64 6))))),none,[4,0,1,2,3,4]⟩])
.ret) .skip))
(.seq (.reg [⟨some 33,33,.load true 2 (.t 6),none,[]⟩,
⟨some 34,34,.fld 0 (.t 1),none,[0]⟩,
⟨none,57,.store 2 (.t 34) (.t 33),none,[1,0,0]⟩])
(.seq (.reg [⟨some 35,35,.fld 3 (.t 1),none,[]⟩,
⟨some 36,36,.load false 1 (.t 35),none,[0]⟩,
⟨some 37,37,.mv (.t 7),none,[]⟩,
⟨some 38,38,.idx 3 (.t 36) (.t 37),none,[1,2]⟩,
⟨some 39,39,.load true 3 (.t 38),none,[3]⟩,
⟨some 9,9,.mk 42 3 [[.s (.pv (.int .i64 0)),.s (.pv (.int .i64 0)),.s (.pv (.string ⟨#[]⟩))]],none,[]⟩,
⟨none,61,.store 3 (.t 9) (.t 39),none,[5,4,0,1,2,3,4,5]⟩])
(.seq (.seq (.reg [⟨some 41,41,.fld 4 (.t 1),none,[]⟩,
⟨some 42,42,.load false 1 (.t 41),none,[0]⟩,
⟨some 43,43,.fld 0 (.t 9),none,[]⟩,
⟨some 44,44,.load false 1 (.t 43),none,[2]⟩,
⟨some 45,45,.call 123 [.t 42,.t 44],none,[1,3]⟩,
⟨some 40,40,.mv (.t 45),none,[4]⟩,
⟨some 46,46,.ext 0 (.t 40),none,[5]⟩,
⟨some 47,47,.ext 1 (.t 40),none,[5]⟩,
⟨some 10,10,.mv (.t 46),none,[6,4,0,1,2,3,4,5,6]⟩,
⟨some 11,11,.mv (.t 47),none,[7,8,0,1,2,3,4,5,6,7,8]⟩])
(.seq (.reg [⟨some 48,48,.mv (.t 11),none,[]⟩])
(.cond (.t 48) (.seq (.draw [⟨some 49,49,.load true 5 (.t 1),none,[]⟩,
⟨some 50,50,.load true 3 (.t 9),none,[]⟩,
⟨none,57,.store 5 (.t 2) (.t 49),none,[0,0]⟩,
⟨none,58,.store 3 (.t 3) (.t 50),none,[1,2,0,1,2]⟩,
⟨some 4,4,.mv (.k (.c (.s (.pv (.bool true))))),none,[3,0,1,2,3]⟩,
⟨some 5,5,.mv (.k (.c (.s (.pv (.int .i64 0))))),none,[4,0,1,2,3,4]⟩])
.ret) .skip)))
(.seq (.draw [⟨some 51,51,.load true 5 (.t 1),none,[]⟩,
⟨some 52,52,.mv (.t 7),none,[]⟩,
⟨some 53,53,.call 146 [.t 51,.t 52],none,[0,1]⟩,
⟨some 54,54,.load true 3 (.t 9),none,[]⟩,
⟨none,59,.store 5 (.t 2) (.t 53),none,[2,2,0,1,2]⟩,
⟨none,60,.store 3 (.t 3) (.t 54),none,[3,4,0,1,2,3,4]⟩,
⟨some 4,4,.mv (.k (.c (.s (.pv (.bool false))))),none,[5,0,1,2,3,4,5]⟩,
⟨some 5,5,.mv (.k (.c (.s (.pv (.int .i64 0))))),none,[6,0,1,2,3,4,5,6]⟩])
.ret)))))))))
theorem fn169 : FnIs Tryz.prog 169 ac169 [.cell 2 true 5,.cell 3 true 3,.t 4,.t 5] 55 := ⟨Tryz.f169,Tryz.func169,by kernel_rfl,by kernel_rfl,by kernel_rfl⟩
def ac170 : ACode := (.seq (.reg [⟨some 1,1,.box 34 5 (.t 0),none,[]⟩,
⟨some 2,2,.mv (.k (.c (.s (.pv (.int .i64 0))))),none,[]⟩])
(.seq (.reg [⟨some 3,3,.fld 0 (.t 1),none,[]⟩,
⟨some 4,4,.fld 0 (.t 3),none,[0]⟩,
⟨some 5,5,.load false 1 (.t 4),none,[1]⟩,
⟨some 6,6,.call 189 [.t 5,.k (.c (.s (.fn 190 [])))],none,[2]⟩,
⟨some 2,2,.mv (.t 6),none,[3,3,0,1,2,3]⟩])
.ret))
theorem fn170 : FnIs Tryz.prog 170 ac170 [.t 2] 7 := ⟨Tryz.f170,Tryz.func170,by kernel_rfl,by kernel_rfl,by kernel_rfl⟩
def ac171 : ACode := (.seq (.reg [⟨some 3,3,.box 31 1 (.t 0),none,[]⟩,
⟨some 6,6,.mk 31 1 [[.zc]],none,[]⟩,
⟨some 7,7,.mv (.k (.c (.s (.pv (.int .i64 0))))),none,[]⟩])
(.seq (.seq (.reg [⟨some 12,12,.load true 1 (.t 3),none,[]⟩,
⟨some 13,13,.call 44 [.t 12],none,[0]⟩,
⟨some 14,14,.not (.t 13),none,[1]⟩,
⟨some 15,15,.mv (.t 14),none,[2,1]⟩,
⟨some 16,16,.mv (.t 1),(some (15,false)),[3]⟩,
⟨some 17,17,.call 84 [.t 16],(some (15,false)),[4,3,3]⟩,
⟨some 18,18,.not (.t 17),(some (15,false)),[5,3]⟩,
⟨some 19,19,.pick (.t 15) (.k (.c (.s (.pv (.bool true))))) (.t 18),none,[3,6]⟩,
⟨some 20,20,.mv (.t 19),none,[7,5]⟩,
⟨some 21,21,.mv (.t 2),(some (20,false)),[8]⟩,
⟨some 22,22,.call 85 [.t 21],(some (20,false)),[9,8,8]⟩,
⟨some 23,23,.not (.t 22),(some (20,false)),[10,8]⟩,
⟨some 24,24,.pick (.t 20) (.k (.c (.s (.pv (.bool true))))) (.t 23),none,[8,11]⟩])
(.cond (.t 24) (.seq (.reg [⟨some 25,25,.load true 1 (.t 3),none,[]⟩,
⟨none,52,.store 1 (.t 6) (.t 25),none,[0,0]⟩,
⟨some 7,7,.mv (.k (.c (.s (.pv (.int .i64 1))))),none,[1,0,1]⟩])
.ret) .skip))
(.seq (.seq (.reg [⟨some 27,27,.load true 1 (.t 3),none,[]⟩,
⟨some 28,28,.mv (.t 1),none,[]⟩,
⟨some 29,29,.call 91 [.t 27,.t 28],none,[0,1]⟩,
⟨some 26,26,.mv (.t 29),none,[2]⟩,
⟨some 30,30,.ext 0 (.t 26),none,[3]⟩,
⟨some 31,31,.ext 1 (.t 26),none,[3]⟩,
⟨some 8,8,.mv (.t 30),none,[4,2,0,1,2,3,4]⟩,
⟨some 9,9,.mv (.t 31),none,[5,6,0,1,2,3,4,5,6]⟩])
(.seq (.reg [⟨some 32,32,.mv (.t 9),none,[]⟩])
(.cond (.t 32) (.seq (.reg [⟨some 33,33,.load true 1 (.t 3),none,[]⟩,
⟨none,52,.store 1 (.t 6) (.t 33),none,[0,0]⟩,
⟨some 7,7,.mv (.k (.c (.s (.pv (.int .i64 4))))),none,[1,0,1]⟩])
.ret) .skip)))
(.seq (.reg [⟨some 34,34,.load true 1 (.t 3),none,[]⟩,
⟨some 35,35,.mv (.t 1),none,[]⟩,
⟨some 36,36,.call 86 [.t 34,.t 35],none,[0,1]⟩,
⟨some 10,10,.mv (.t 36),none,[2,2,0,1,2]⟩])
(.seq (.seq (.reg [⟨some 37,37,.mv (.t 10),none,[]⟩,
⟨some 38,38,.bin false .lss (.t 37) (.k (.c (.s (.pv (.int .i64 0))))),none,[0]⟩])
(.cond (.t 38) (.seq (.reg [⟨some 39,39,.load true 1 (.t 3),none,[]⟩,
⟨none,52,.store 1 (.t 6) (.t 39),none,[0,0]⟩,
⟨some 7,7,.mv (.k (.c (.s (.pv (.int .i64 7))))),none,[1,0,1]⟩])
.ret) .skip))
(.seq (.reg [⟨some 40,40,.fld 0 (.t 3),none,[]⟩,
⟨some 41,41,.load false 1 (.t 40),none,[0]⟩,
⟨some 42,42,.call 191 [.t 41],none,[1]⟩,
⟨some 11,11,.mv (.t 42),none,[2,2,0,1,2]⟩])
(.seq (.reg [⟨some 43,43,.mv (.t 11),none,[]⟩,
⟨some 44,44,.mv (.t 10),none,[]⟩,
⟨some 45,45,.mv (.t 1),none,[]⟩,
⟨some 46,46,.mv (.t 2),none,[]⟩,
⟨some 47,47,.build [.s (.pv (.int .i64 0)),.s (.pv (.int .i64 0))] [(0,1,(.t 45)),(1,1,(.t 46))],none,[2,3]⟩,
⟨some 48,48,.idx 2 (.t 43) (.t 44),none,[0,1,0,1,2,3,4]⟩,
⟨none,57,.store 2 (.t 48) (.t 47),none,[5,4,0,1,2,3,4]⟩])
(.seq (.reg [⟨some 49,49,.mv (.t 11),none,[]⟩,
⟨some 50,50,.build [.zc] [(0,1,(.t 49))],none,[0]⟩,
⟨none,53,.store 1 (.t 6) (.t 50),none,[1,0,1]⟩,
⟨some 7,7,.mv (.k (.c (.s (.pv (.int .i64 0))))),none,[2,0,1,2]⟩])
.ret))))))))
theorem fn171 : FnIs Tryz.prog 171 ac171 [.cell 6 true 1,.t 7] 51 := ⟨Tryz.f171,Tryz.func171,by kernel_rfl,by kernel_rfl,by kernel_rfl⟩
def ac172 : ACode := (.seq (.reg [⟨some 6,6,.mv (.k (.c .zc)),none,[]⟩,
⟨some 7,7,.mv (.k (.c (.s (.pv (.int .i64 0))))),none,[0]⟩])
(.seq (.seq (.reg [⟨some 8,8,.mv (.t 0),none,[]⟩,
⟨some 9,9,.call 45 [.t 8],none,[0]⟩,
⟨some 10,10,.not (.t 9),none,[1]⟩,
⟨some 11,11,.mv (.t 10),none,[2,1]⟩,
⟨some 12,12,.mv (.t 1),(some (11,false)),[3]⟩,
⟨some 13,13,.call 87 [.t 12],(some (11,false)),[4,3,3]⟩,
⟨some 14,14,.not (.t 13),(some (11,false)),[5,3]⟩,
⟨some 15,15,.pick (.t 11) (.k (.c (.s (.pv (.bool true))))) (.t 14),none,[3,6]⟩,
⟨some 16,16,.mv (.t 15),none,[7,5]⟩,
⟨some 17,17,.mv (.t 2),(some (16,false)),[8]⟩,
⟨some 18,18,.bin false .lss (.t 17) (.k (.c (.s (.pv (.int .i64 0))))),(some (16,false)),[9,8]⟩,
⟨some 19,19,.pick (.t 16) (.k (.c (.s (.pv (.bool true))))) (.t 18),none,[8,10]⟩,
⟨some 20,20,.mv (.t 19),none,[11,8]⟩,
⟨some 21,21,.mv (.t 2),(some (20,false)),[12]⟩,
⟨some 22,22,.bin false .gtr (.t 21) (.k (.c (.s (.pv (.int .i64 2147483647))))),(some (20,false)),[13,12]⟩,
⟨some 23,23,.pick (.t 20) (.k (.c (.s (.pv (.bool true))))) (.t 22),none,[12,14]⟩])
(.cond (.t 23) (.seq (.reg [⟨some 24,24,.mv (.t 0),none,[]⟩,
⟨some 6,6,.mv (.t 24),none,[0,0]⟩,
⟨some 7,7,.mv (.k (.c (.s (.pv (.int .i64 1))))),none,[1,0,1]⟩])
.ret) .skip))
(.seq (.seq (.reg [⟨some 25,25,.mv (.t 0),none,[]⟩,
⟨some 26,26,.len (.t 25),none,[0]⟩,
⟨some 27,27,.bin false .gtr (.t 26) (.k (.c (.s (.pv (.int .i64 0))))),none,[1]⟩,
⟨some 28,28,.mv (.t 27),none,[2]⟩,
⟨some 29,29,.mv (.t 2),(some (28,true)),[3]⟩,
⟨some 30,30,.mv (.t 0),(some (28,true)),[3]⟩,
⟨some 31,31,.mv (.t 0),(some (28,true)),[3]⟩,
⟨some 32,32,.len (.t 31),(some (28,true)),[6,3]⟩,
⟨some 33,33,.bin false .sub (.t 32) (.k (.c (.s (.pv (.int .i64 1))))),(some (28,true)),[7,3]⟩,
⟨some 34,34,.idx 2 (.t 30) (.t 33),(some (28,true)),[5,8,3]⟩,
⟨some 35,35,.fld 1 (.t 34),(some (28,true)),[9,3]⟩,
⟨some 36,36,.load false 1 (.t 35),(some (28,true)),[10,3]⟩,
⟨some 37,37,.bin false .lss (.t 29) (.t 36),(some (28,true)),[4,11,3]⟩,
⟨some 38,38,.pick (.t 28) (.t 37) (.k (.c (.s (.pv (.bool false))))),none,[3,12]⟩])
(.cond (.t 38) (.seq (.reg [⟨some 39,39,.mv (.t 0),none,[]⟩,
⟨some 6,6,.mv (.t 39),none,[0,0]⟩,
⟨some 7,7,.mv (.k (.c (.s (.pv (.int .i64 1))))),none,[1,0,1]⟩])
.ret) .skip))
(.seq (.seq (.reg [⟨some 40,40,.mv (.t 0),none,[]⟩,
⟨some 41,41,.mv (.t 1),none,[]⟩,
⟨some 42,42,.call 88 [.t 40,.t 41],none,[0,1]⟩,
⟨some 43,43,.bin false .geq (.t 42) (.k (.c (.s (.pv (.int .i64 0))))),none,[2]⟩])
(.cond (.t 43) (.seq (.reg [⟨some 44,44,.mv (.t 0),none,[]⟩,
⟨some 6,6,.mv (.t 44),none,[0,0]⟩,
⟨some 7,7,.mv (.k (.c (.s (.pv (.int .i64 0))))),none,[1,0,1]⟩])
.ret) .skip))
(.seq (.reg [⟨some 45,45,.mv (.t 0),none,[]⟩,
⟨some 46,46,.call 192 [.t 45],none,[0]⟩,
⟨some 47,47,.mv (.t 1),none,[]⟩,
⟨some 48,48,.mv (.t 2),none,[]⟩,
⟨some 49,49,.build [.s (.pv (.int .i64 0)),.s (.pv (.int .i64 0))] [(0,1,(.t 47)),(1,1,(.t 48))],none,[2,3]⟩,
⟨some 50,50,.bslice 64 2 [.s (.pv (.int .i64 0)),.s (.pv (.int .i64 0))] 1 [(0,2,(.t 49))],none,[4]⟩,
⟨some 51,51,.app 64 2 16 (.t 46) (.t 50),none,[1,5,1]⟩,
⟨some 6,6,.mv (.t 51),none,[6,6,0,1,2,3,4,5,6]⟩,
⟨some 7,7,.mv (.k (.c (.s (.pv (.int .i64 0))))),none,[7,0,1,2,3,4,5,6,7]⟩])
.ret)))))
theorem fn172 : FnIs Tryz.prog 172 ac172 [.t 6,.t 7] 52 := ⟨Tryz.f172,Tryz.func172,by kernel_rfl,by kernel_rfl,by kernel_rfl⟩
def ac173 : ACode := (.seq (.reg [⟨some 2,2,.box 31 1 (.t 0),none,[]⟩,
⟨some 4,4,.mk 31 1 [[.zc]],none,[]⟩,
⟨some 5,5,.mv (.k (.c (.s (.pv (.int .i64 0))))),none,[]⟩])
(.seq (.seq (.reg [⟨some 13,13,.load true 1 (.t 2),none,[]⟩,
⟨some 14,14,.call 44 [.t 13],none,[0]⟩,
⟨some 15,15,.not (.t 14),none,[1]⟩])
(.cond (.t 15) (.seq (.reg [⟨some 16,16,.load true 1 (.t 2),none,[]⟩,
⟨none,69,.store 1 (.t 4) (.t 16),none,[0,0]⟩,
⟨some 5,5,.mv (.k (.c (.s (.pv (.int .i64 1))))),none,[1,0,1]⟩])
.ret) .skip))
(.seq (.reg [⟨some 18,18,.load true 1 (.t 2),none,[]⟩,
⟨some 19,19,.mv (.t 1),none,[]⟩,
⟨some 20,20,.call 91 [.t 18,.t 19],none,[0,1]⟩,
⟨some 17,17,.mv (.t 20),none,[2]⟩,
⟨some 21,21,.ext 0 (.t 17),none,[3]⟩,
⟨some 22,22,.ext 1 (.t 17),none,[3]⟩,
⟨some 6,6,.mv (.t 21),none,[4,2,0,1,2,3,4]⟩,
⟨some 7,7,.mv (.t 22),none,[5,6,0,1,2,3,4,5,6]⟩])
(.seq (.seq (.reg [⟨some 23,23,.mv (.t 7),none,[]⟩,
⟨some 24,24,.not (.t 23),none,[0]⟩])
(.cond (.t 24) (.seq (.reg [⟨some 25,25,.load true 1 (.t 2),none,[]⟩,
⟨none,69,.store 1 (.t 4) (.t 25),none,[0,0]⟩,
⟨some 5,5,.mv (.k (.c (.s (.pv (.int .i64 3))))),none,[1,0,1]⟩])
.ret) .skip))
(.seq (.reg [⟨some 26,26,.fld 0 (.t 2),none,[]⟩,
⟨some 27,27,.load false 1 (.t 26),none,[0]⟩,
⟨some 28,28,.call 191 [.t 27],none,[1]⟩,
⟨some 8,8,.mv (.t 28),none,[2,2,0,1,2]⟩])
(.seq (.reg [⟨some 29,29,.mv (.t 8),none,[]⟩,
⟨some 30,30,.mv (.t 6),none,[]⟩,
⟨some 31,31,.build [.s (.pv (.int .i64 0)),.s (.pv (.int .i64 0))] [],none,[]⟩,
⟨some 32,32,.idx 2 (.t 29) (.t 30),none,[0,1,0,1,2]⟩,
⟨none,72,.store 2 (.t 32) (.t 31),none,[3,2,0,1,2]⟩])
(.seq (.reg [⟨some 33,33,.mv (.t 6),none,[]⟩,
⟨some 9,9,.mv (.t 33),none,[0,0]⟩])
(.seq (.seq (.reg [⟨some 10,10,.mv (.k (.c (.s (.pv (.int .i64 1))))),none,[]⟩])
(.block 0 (.loop (.seq (.seq (.reg [⟨some 34,34,.mv (.t 10),none,[]⟩,
⟨some 35,35,.bin false .lss (.t 34) (.k (.c (.s (.pv (.int .i64 16))))),none,[0]⟩])
(.cond (.t 35) .skip (.exit 0)))
(.seq (.block 1 (.seq (.reg [⟨some 38,38,.mv (.t 9),none,[]⟩,
⟨some 39,39,.mv (.t 10),none,[]⟩,
⟨some 40,40,.bin false .add (.t 38) (.t 39),none,[0,1]⟩,
⟨some 41,41,.bin false .rem (.t 40) (.k (.c (.s (.pv (.int .i64 16))))),none,[2]⟩,
⟨some 11,11,.mv (.t 41),none,[3,0,1,2,3]⟩])
(.seq (.reg [⟨some 42,42,.mv (.t 8),none,[]⟩,
⟨some 43,43,.mv (.t 11),none,[]⟩,
⟨some 44,44,.idx 2 (.t 42) (.t 43),none,[0,1]⟩,
⟨some 45,45,.load true 2 (.t 44),none,[2]⟩,
⟨some 12,12,.mk 155 2 [[.s (.pv (.int .i64 0)),.s (.pv (.int .i64 0))]],none,[]⟩,
⟨none,73,.store 2 (.t 12) (.t 45),none,[4,3,0,1,2,3,4]⟩])
(.seq (.seq (.reg [⟨some 46,46,.load true 2 (.t 12),none,[]⟩,
⟨some 47,47,.call 83 [.t 46],none,[0]⟩])
(.cond (.t 47) (.exit 0) .skip))
(.seq (.draw [⟨some 48,48,.fld 0 (.t 12),none,[]⟩,
⟨some 49,49,.load false 1 (.t 48),none,[0]⟩,
⟨some 50,50,.mv (.t 6),none,[]⟩,
⟨some 51,51,.call 193 [.t 49,.t 50],none,[1,2]⟩,
⟨some 52,52,.fld 0 (.t 12),none,[]⟩,
⟨some 53,53,.load false 1 (.t 52),none,[4]⟩,
⟨some 54,54,.mv (.t 11),none,[]⟩,
⟨some 55,55,.call 193 [.t 53,.t 54],none,[5,6,3]⟩,
⟨some 56,56,.bin false .lss (.t 51) (.t 55),none,[3,7]⟩])
(.cond (.t 56) (.seq (.reg [⟨some 57,57,.mv (.t 8),none,[]⟩,
⟨some 58,58,.mv (.t 6),none,[]⟩,
⟨some 59,59,.mv (.t 8),none,[]⟩,
⟨some 60,60,.mv (.t 11),none,[]⟩,
⟨some 61,61,.load true 2 (.t 12),none,[]⟩,
⟨some 62,62,.build [.s (.pv (.int .i64 0)),.s (.pv (.int .i64 0))] [],none,[]⟩,
⟨some 63,63,.idx 2 (.t 57) (.t 58),none,[0,1,0,1,4]⟩,
⟨none,75,.store 2 (.t 63) (.t 61),none,[6,4,0,1,4]⟩,
⟨some 64,64,.idx 2 (.t 59) (.t 60),none,[2,3,0,1,2,3,4,5,6,7]⟩,
⟨none,77,.store 2 (.t 64) (.t 62),none,[8,5,7,0,1,2,3,4,5,6,7]⟩])
(.reg [⟨some 65,65,.mv (.t 11),none,[]⟩,
⟨some 6,6,.mv (.t 65),none,[0,0]⟩])) .skip))))))
(.reg [⟨some 36,36,.mv (.t 10),none,[]⟩,
⟨some 37,37,.bin false .add (.t 36) (.k (.c (.s (.pv (.int .i64 1))))),none,[0]⟩,
⟨some 10,10,.mv (.t 37),none,[1,0,1]⟩]))))))
(.seq (.reg [⟨some 66,66,.mv (.t 8),none,[]⟩,
⟨some 67,67,.build [.zc] [(0,1,(.t 66))],none,[0]⟩,
⟨none,70,.store 1 (.t 4) (.t 67),none,[1,0,1]⟩,
⟨some 5,5,.mv (.k (.c (.s (.pv (.int .i64 0))))),none,[2,0,1,2]⟩])
.ret)))))))))
theorem fn173 : FnIs Tryz.prog 173 ac173 [.cell 4 true 1,.t 5] 68 := ⟨Tryz.f173,Tryz.func173,by kernel_rfl,by kernel_rfl,by kernel_rfl⟩
def ac174 : ACode := (.seq (.reg [⟨some 4,4,.mv (.k (.c .zc)),none,[]⟩,
⟨some 5,5,.mv (.k (.c (.s (.pv (.int .i64 0))))),none,[0]⟩])
(.seq (.seq (.reg [⟨some 7,7,.mv (.t 0),none,[]⟩,
⟨some 8,8,.call 45 [.t 7],none,[0]⟩,
⟨some 9,9,.not (.t 8),none,[1]⟩])
(.cond (.t 9) (.seq (.reg [⟨some 10,10,.mv (.t 0),none,[]⟩,
⟨some 4,4,.mv (.t 10),none,[0,0]⟩,
⟨some 5,5,.mv (.k (.c (.s (.pv (.int .i64 1))))),none,[1,0,1]⟩])
.ret) .skip))
(.seq (.reg [⟨some 11,11,.mv (.t 0),none,[]⟩,
⟨some 12,12,.mv (.t 1),none,[]⟩,
⟨some 13,13,.call 88 [.t 11,.t 12],none,[0,1]⟩,
⟨some 6,6,.mv (.t 13),none,[2,2,0,1,2]⟩])
(.seq (.seq (.reg [⟨some 14,14,.mv (.t 6),none,[]⟩,
⟨some 15,15,.bin false .lss (.t 14) (.k (.c (.s (.pv (.int .i64 0))))),none,[0]⟩])
(.cond (.t 15) (.seq (.reg [⟨some 16,16,.mv (.t 0),none,[]⟩,
⟨some 4,4,.mv (.t 16),none,[0,0]⟩,
⟨some 5,5,.mv (.k (.c (.s (.pv (.int .i64 3))))),none,[1,0,1]⟩])
.ret) .skip))
(.seq (.reg [⟨some 17,17,.mv (.t 0),none,[]⟩,
⟨some 18,18,.call 192 [.t 17],none,[0]⟩,
⟨some 19,19,.mv (.t 6),none,[]⟩,
⟨some 20,20,.mv (.t 6),none,[]⟩,
⟨some 21,21,.bin false .add (.t 20) (.k (.c (.s (.pv (.int .i64 1))))),none,[3]⟩,
⟨some 22,22,.call 194 [.t 18,.t 19,.t 21],none,[1,2,4,1]⟩,
⟨some 4,4,.mv (.t 22),none,[5,5,0,1,2,3,4,5]⟩,
⟨some 5,5,.mv (.k (.c (.s (.pv (.int .i64 0))))),none,[6,0,1,2,3,4,5,6]⟩])
.ret)))))
theorem fn174 : FnIs Tryz.prog 174 ac174 [.t 4,.t 5] 23 := ⟨Tryz.f174,Tryz.func174,by kernel_rfl,by kernel_rfl,by kernel_rfl⟩
def ac188 : ACode := (.seq (.reg [⟨some 1,1,.box 28 2 (.t 0),none,[]⟩,
⟨some 2,2,.mk 28 2 [[.zc,.s (.pv (.int .i64 0))]],none,[]⟩,
⟨some 3,3,.mv (.k (.c (.s (.pv (.int .i64 0))))),none,[]⟩,
⟨some 4,4,.mv (.k (.c (.s (.pv (.bool false))))),none,[2]⟩])
(.seq (.seq (.reg [⟨some 7,7,.load true 2 (.t 1),none,[]⟩,
⟨some 8,8,.call 43 [.t 7],none,[0]⟩,
⟨some 9,9,.not (.t 8),none,[1]⟩,
⟨some 10,10,.mv (.t 9),none,[2,1]⟩,
⟨some 11,11,.fld 0 (.t 1),(some (10,false)),[3]⟩,
⟨some 12,12,.load false 1 (.t 11),(some (10,false)),[4,3]⟩,
⟨some 13,13,.call 197 [.t 12,.k (.c (.s (.fn 198 [])))],(some (10,false)),[5,3,3]⟩,
⟨some 14,14,.not (.t 13),(some (10,false)),[6,3]⟩,
⟨some 15,15,.pick (.t 10) (.k (.c (.s (.pv (.bool true))))) (.t 14),none,[3,7]⟩])
(.cond (.t 15) (.seq (.reg [⟨some 16,16,.load true 2 (.t 1),none,[]⟩,
⟨none,54,.store 2 (.t 2) (.t 16),none,[0,0]⟩,
⟨some 3,3,.mv (.k (.c (.s (.pv (.int .i64 0))))),none,[1,0,1]⟩,
⟨some 4,4,.mv (.k (.c (.s (.pv (.bool false))))),none,[2,0,1,2]⟩])
.ret) .skip))
(.seq (.reg [⟨some 17,17,.fld 0 (.t 1),none,[]⟩,
⟨some 18,18,.load false 1 (.t 17),none,[0]⟩,
⟨some 19,19,.call 165 [.t 18],none,[1]⟩,
⟨some 5,5,.mv (.t 19),none,[2,2,0,1,2]⟩])
(.seq (.reg [⟨some 20,20,.fld 1 (.t 1),none,[]⟩,
⟨some 21,21,.load false 1 (.t 20),none,[0]⟩,
⟨some 6,6,.mv (.t 21),none,[1,0,1]⟩])
(.seq (.block 0 (.loop (.seq (.seq (.reg [⟨some 22,22,.mv (.t 5),none,[]⟩,
⟨some 23,23,.mv (.t 6),none,[]⟩,
⟨some 24,24,.idx 3 (.t 22) (.t 23),none,[0,1]⟩,
⟨some 25,25,.load true 3 (.t 24),none,[2]⟩,
⟨some 26,26,.call 199 [.t 25],none,[3]⟩,
⟨some 27,27,.mv (.t 26),none,[4,4]⟩,
⟨some 28,28,.mv (.t 5),(some (27,false)),[5]⟩,
⟨some 29,29,.mv (.t 6),(some (27,false)),[5]⟩,
⟨some 30,30,.idx 3 (.t 28) (.t 29),(some (27,false)),[6,7,5]⟩,
⟨some 31,31,.fld 2 (.t 30),(some (27,false)),[8,5]⟩,
⟨some 32,32,.load false 1 (.t 31),(some (27,false)),[9,5]⟩,
⟨some 33,33,.pick (.t 27) (.k (.c (.s (.pv (.bool true))))) (.t 32),none,[5,10]⟩])
(.cond (.t 33) .skip (.exit 0)))
(.block 1 (.seq (.seq (.reg [⟨some 34,34,.mv (.t 5),none,[]⟩,
⟨some 35,35,.mv (.t 6),none,[]⟩,
⟨some 36,36,.idx 3 (.t 34) (.t 35),none,[0,1]⟩,
⟨some 37,37,.load true 3 (.t 36),none,[2]⟩,
⟨some 38,38,.call 199 [.t 37],none,[3]⟩,
⟨some 39,39,.not (.t 38),none,[4]⟩])
(.cond (.t 39) (.reg [⟨some 40,40,.mv (.t 5),none,[]⟩,
⟨some 41,41,.mv (.t 6),none,[]⟩,
⟨some 42,42,.idx 3 (.t 40) (.t 41),none,[0,1,0,1]⟩,
⟨some 43,43,.fld 2 (.t 42),none,[2,0,1]⟩,
⟨none,57,.store 1 (.t 43) (.k (.c (.s (.pv (.bool false))))),none,[3,0,1]⟩]) .skip))
(.reg [⟨some 44,44,.load true 2 (.t 1),none,[]⟩,
⟨some 45,45,.mv (.t 6),none,[]⟩,
⟨some 46,46,.call 200 [.t 44,.t 45],none,[0,1]⟩,
⟨some 6,6,.mv (.t 46),none,[2,2,0,1,2]⟩]))))))
(.seq (.reg [⟨some 47,47,.mv (.t 5),none,[]⟩,
⟨some 48,48,.load true 2 (.t 1),none,[]⟩,
⟨some 49,49,.mv (.t 6),none,[]⟩,
⟨some 50,50,.call 200 [.t 48,.t 49],none,[1,2]⟩,
⟨some 51,51,.build [.zc,.s (.pv (.int .i64 0))] [(0,1,(.t 47)),(1,1,(.t 50))],none,[0,3]⟩,
⟨some 52,52,.mv (.t 6),none,[]⟩,
⟨none,59,.store 2 (.t 2) (.t 51),none,[4,3,0,1,2,3,4]⟩,
⟨some 3,3,.mv (.t 52),none,[5,6,0,1,2,3,4,5,6]⟩,
⟨some 4,4,.mv (.k (.c (.s (.pv (.bool true))))),none,[7,0,1,2,3,4,5,6,7]⟩])
.ret))))))
theorem fn188 : FnIs Tryz.prog 188 ac188 [.cell 2 true 2,.t 3,.t 4] 53 := ⟨Tryz.f188,Tryz.func188,by kernel_rfl,by kernel_rfl,by kernel_rfl⟩
def ac189 : ACode := (.seq (.reg [⟨some 4,4,.mv (.k (.c (.s (.pv (.int .i64 0))))),none,[]⟩])
(.seq (.seq (.reg [⟨some 6,6,.mv (.t 0),none,[]⟩,
⟨some 7,7,.len (.t 6),none,[0]⟩,
⟨some 8,8,.mv (.k (.c (.s (.pv (.int .i64 0))))),none,[]⟩])
(.block 0 (.loop (.seq (.reg [⟨some 9,9,.bin false .lss (.t 8) (.t 7),none,[]⟩])
(.seq (.cond (.t 9) .skip (.exit 0))
(.seq (.block 1 (.seq (.reg [⟨some 10,10,.mv (.t 8),none,[]⟩,
⟨some 5,5,.mv (.t 10),none,[0,0]⟩])
(.seq (.reg [⟨some 11,11,.mv (.t 1),none,[]⟩,
⟨some 12,12,.mv (.t 0),none,[]⟩,
⟨some 13,13,.mv (.t 5),none,[]⟩,
⟨some 14,14,.idx 3 (.t 12) (.t 13),none,[1,2]⟩,
⟨some 15,15,.load true 3 (.t 14),none,[3]⟩,
⟨some 16,16,.callv (.t 11) [.t 15],none,[0,4]⟩])
(.cond (.t 16) (.seq (.reg [⟨some 17,17,.mv (.t 5),none,[]⟩,
⟨some 4,4,.mv (.t 17),none,[0,0]⟩])
.ret) .skip))))
(.reg [⟨some 18,18,.bin false .add (.t 8) (.k (.c (.s (.pv (.int .i64 1))))),none,[]⟩,
⟨some 8,8,.mv (.t 18),none,[0]⟩])))))))
(.seq (.reg [⟨some 4,4,.mv (.k (.c (.s (.pv (.int .i64 (-1)))))),none,[]⟩])
.ret)))
theorem fn189 : FnIs Tryz.prog 189 ac189 [.t 4] 19 := ⟨Tryz.f189,Tryz.func189,by kernel_rfl,by kernel_rfl,by kernel_rfl⟩
def ac190 : ACode := (.seq (.reg [⟨some 1,1,.box 153 3 (.t 0),none,[]⟩,
⟨some 2,2,.mv (.k (.c (.s (.pv (.bool false))))),none,[]⟩])
(.seq (.reg [⟨some 3,3,.fld 0 (.t 1),none,[]⟩,
⟨some 4,4,.load false 1 (.t 3),none,[0]⟩,
⟨some 5,5,.bin false .eql (.t 4) (.k (.c (.s (.pv (.int .i64 0))))),none,[1]⟩,
⟨some 2,2,.mv (.t 5),none,[2,0,1,2]⟩])
.ret))
theorem fn190 : FnIs Tryz.prog 190 ac190 [.t 2] 6 := ⟨Tryz.f190,Tryz.func190,by kernel_rfl,by kernel_rfl,by kernel_rfl⟩
def ac191 : ACode := (.seq (.reg [⟨some 2,2,.mv (.k (.c .zc)),none,[]⟩])
(.seq (.seq (.reg [⟨some 3,3,.mv (.t 0),none,[]⟩,
⟨some 4,4,.isnil (.t 3),none,[0]⟩])
(.cond (.t 4) (.seq (.reg [⟨some 2,2,.mv (.k (.c .zc)),none,[]⟩])
.ret) .skip))
(.seq (.reg [⟨some 5,5,.bslice 155 2 [.s (.pv (.int .i64 0)),.s (.pv (.int .i64 0))] 0 [],none,[]⟩,
⟨some 6,6,.mv (.t 0),none,[]⟩,
⟨some 7,7,.app 155 2 16 (.t 5) (.t 6),none,[0,1]⟩,
⟨some 2,2,.mv (.t 7),none,[2,2,0,1,2]⟩])
.ret)))
theorem fn191 : FnIs Tryz.prog 191 ac191 [.t 2] 8 := ⟨Tryz.f191,Tryz.func191,by kernel_rfl,by kernel_rfl,by kernel_rfl⟩
def ac192 : ACode := (.seq (.reg [⟨some 2,2,.mv (.k (.c .zc)),none,[]⟩])
(.seq (.seq (.reg [⟨some 3,3,.mv (.t 0),none,[]⟩,
⟨some 4,4,.isnil (.t 3),none,[0]⟩])
(.cond (.t 4) (.seq (.reg [⟨some 2,2,.mv (.k (.c .zc)),none,[]⟩])
.ret) .skip))
(.seq (.reg [⟨some 5,5,.bslice 64 2 [.s (.pv (.int .i64 0)),.s (.pv (.int .i64 0))] 0 [],none,[]⟩,
⟨some 6,6,.mv (.t 0),none,[]⟩,
⟨some 7,7,.app 64 2 16 (.t 5) (.t 6),none,[0,1]⟩,
⟨some 2,2,.mv (.t 7),none,[2,2,0,1,2]⟩])
.ret)))
theorem fn192 : FnIs Tryz.prog 192 ac192 [.t 2] 8 := ⟨Tryz.f192,Tryz.func192,by kernel_rfl,by kernel_rfl,by kernel_rfl⟩
def ac193 : ACode := (.seq (.reg [⟨some 4,4,.mv (.k (.c (.s (.pv (.int .i64 0))))),none,[]⟩])
(.seq (.reg [⟨some 5,5,.mv (.t 1),none,[]⟩,
⟨some 6,6,.mv (.t 0),none,[]⟩,
⟨some 7,7,.bin false .rem (.t 6) (.k (.c (.s (.pv (.int .i64 16))))),none,[1]⟩,
⟨some 8,8,.bin false .sub (.t 5) (.t 7),none,[0,2]⟩,
⟨some 9,9,.bin false .add (.t 8) (.k (.c (.s (.pv (.int .i64 16))))),none,[3]⟩,
⟨some 10,10,.bin false .rem (.t 9) (.k (.c (.s (.pv (.int .i64 16))))),none,[4]⟩,
⟨some 4,4,.mv (.t 10),none,[5,0,1,2,3,4,5]⟩])
.ret))
theorem fn193 : FnIs Tryz.prog 193 ac193 [.t 4] 11 := ⟨Tryz.f193,Tryz.func193,by kernel_rfl,by kernel_rfl,by kernel_rfl⟩
def ac197 : ACode := (.seq (.reg [⟨some 4,4,.mv (.k (.c (.s (.pv (.bool false))))),none,[]⟩])
(.seq (.reg [⟨some 5,5,.mv (.t 0),none,[]⟩,
⟨some 6,6,.mv (.t 1),none,[]⟩,
⟨some 7,7,.call 189 [.t 5,.t 6],none,[0,1]⟩,
⟨some 8,8,.bin false .geq (.t 7) (.k (.c (.s (.pv (.int .i64 0))))),none,[2]⟩,
⟨some 4,4,.mv (.t 8),none,[3,2,0,1,2,3]⟩])
.ret))
theorem fn197 : FnIs Tryz.prog 197 ac197 [.t 4] 9 := ⟨Tryz.f197,Tryz.func197,by kernel_rfl,by kernel_rfl,by kernel_rfl⟩
def ac198 : ACode := (.seq (.reg [⟨some 1,1,.box 153 3 (.t 0),none,[]⟩,
⟨some 2,2,.mv (.k (.c (.s (.pv (.bool false))))),none,[]⟩])
(.seq (.reg [⟨some 3,3,.load true 3 (.t 1),none,[]⟩,
⟨some 4,4,.call 199 [.t 3],none,[0]⟩,
⟨some 5,5,.not (.t 4),none,[1]⟩,
⟨some 2,2,.mv (.t 5),none,[2,1,0,1,2]⟩])
.ret))
theorem fn198 : FnIs Tryz.prog 198 ac198 [.t 2] 6 := ⟨Tryz.f198,Tryz.func198,by kernel_rfl,by kernel_rfl,by kernel_rfl⟩
def ac199 : ACode := (.seq (.reg [⟨some 1,1,.box 153 3 (.t 0),none,[]⟩,
⟨some 2,2,.mv (.k (.c (.s (.pv (.bool false))))),none,[]⟩])
(.seq (.reg [⟨some 3,3,.fld 1 (.t 1),none,[]⟩,
⟨some 4,4,.load false 1 (.t 3),none,[0]⟩,
⟨some 5,5,.bin false .gtr (.t 4) (.k (.c (.s (.pv (.int .i64 0))))),none,[1]⟩,
⟨some 2,2,.mv (.t 5),none,[2,0,1,2]⟩])
.ret))
theorem fn199 : FnIs Tryz.prog 199 ac199 [.t 2] 6 := ⟨Tryz.f199,Tryz.func199,by kernel_rfl,by kernel_rfl,by kernel_rfl⟩
def ac200 : ACode := (.seq (.reg [⟨some 2,2,.box 28 2 (.t 0),none,[]⟩,
⟨some 4,4,.mv (.k (.c (.s (.pv (.int .i64 0))))),none,[]⟩])
(.seq (.reg [⟨some 5,5,.mv (.t 1),none,[]⟩,
⟨some 6,6,.bin false .add (.t 5) (.k (.c (.s (.pv (.int .i64 1))))),none,[0]⟩,
⟨some 7,7,.fld 0 (.t 2),none,[]⟩,
⟨some 8,8,.load false 1 (.t 7),none,[2]⟩,
⟨some 9,9,.len (.t 8),none,[3]⟩,
⟨some 10,10,.bin false .rem (.t 6) (.t 9),none,[1,4]⟩,
⟨some 4,4,.mv (.t 10),none,[5,0,1,2,3,4,5]⟩])
.ret))
theorem fn200 : FnIs Tryz.prog 200 ac200 [.t 4] 11 := ⟨Tryz.f200,Tryz.func200,by kernel_rfl,by kernel_rfl,by kernel_rfl⟩
end Go.Proofs.YtcbfhpnmhhnjpaaGreat

