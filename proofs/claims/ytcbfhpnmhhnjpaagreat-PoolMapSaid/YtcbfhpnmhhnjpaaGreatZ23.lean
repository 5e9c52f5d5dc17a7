import Derived.Test.YtcbfhpnmhhnjpaaGreatZ22
set_option linter.unusedVariables false
set_option linter.unusedSimpArgs false
namespace Go.Proofs.YtcbfhpnmhhnjpaaGreat
set_option maxRecDepth 100000
def ac3 : ACode := (.seq (.reg [⟨some 6,6,.mv (.k (.c (.s (.pv (.bool false))))),none,[]⟩])
(.seq (.seq (.reg [⟨some 19,19,.mv (.t 2),none,[]⟩,
⟨some 20,20,.call 15 [.t 19],none,[0]⟩,
⟨some 21,21,.not (.t 20),none,[1]⟩])
(.cond (.t 21) (.seq (.reg [⟨some 22,22,.call 16 [],none,[]⟩,
⟨some 6,6,.mv (.t 22),none,[0,0,0]⟩])
.ret) .skip))
(.seq (.reg [⟨some 24,24,.mv (.t 0),none,[]⟩,
⟨some 25,25,.mv (.t 1),none,[]⟩,
⟨some 26,26,.call 17 [.t 24,.t 25],none,[0,1]⟩,
⟨some 23,23,.mv (.t 26),none,[2]⟩,
⟨some 27,27,.ext 0 (.t 23),none,[3]⟩,
⟨some 28,28,.ext 1 (.t 23),none,[3]⟩,
⟨some 29,29,.ext 2 (.t 23),none,[3]⟩,
⟨some 7,7,.mk 40 8 [[.zc,.s (.pv (.int .i64 0)),.zc,.zc,.zc,.zc,.zc,.s (.pv (.int .i64 0))]],none,[]⟩,
⟨some 8,8,.mk 46 69 [[.s (.pv (.int .i64 0)),.s (.pv (.int .i64 0)),.s (.pv (.string ⟨#[]⟩)),.s (.pv (.int .i64 0)),.s (.pv (.int .i64 0)),.s (.pv (.string ⟨#[]⟩)),.s (.pv (.int .i64 0)),.s (.pv (.int .i64 0)),.s (.pv (.string ⟨#[]⟩)),.s (.pv (.int .i64 0)),.s (.pv (.int .i64 0)),.s (.pv (.string ⟨#[]⟩)),.s (.pv (.int .i64 0)),.s (.pv (.int .i64 0)),.s (.pv (.string ⟨#[]⟩)),.s (.pv (.int .i64 0)),.s (.pv (.int .i64 0)),.s (.pv (.string ⟨#[]⟩)),.s (.pv (.int .i64 0)),.s (.pv (.int .i64 0)),.s (.pv (.string ⟨#[]⟩)),.s (.pv (.int .i64 0)),.s (.pv (.int .i64 0)),.s (.pv (.string ⟨#[]⟩)),.s (.pv (.int .i64 0)),.s (.pv (.int .i64 0)),.s (.pv (.string ⟨#[]⟩)),.s (.pv (.int .i64 0)),.s (.pv (.int .i64 0)),.s (.pv (.string ⟨#[]⟩)),.s (.pv (.int .i64 0)),.s (.pv (.int .i64 0)),.s (.pv (.string ⟨#[]⟩)),.s (.pv (.int .i64 0)),.s (.pv (.int .i64 0)),.s (.pv (.string ⟨#[]⟩)),.s (.pv (.int .i64 0)),.s (.pv (.int .i64 0)),.s (.pv (.string ⟨#[]⟩)),.s (.pv (.int .i64 0)),.s (.pv (.int .i64 0)),.s (.pv (.string ⟨#[]⟩)),.s (.pv (.int .i64 0)),.s (.pv (.int .i64 0)),.s (.pv (.string ⟨#[]⟩)),.s (.pv (.int .i64 0)),.s (.pv (.int .i64 0)),.s (.pv (.string ⟨#[]⟩)),.s (.pv (.int .i64 0)),.s (.pv (.int .i64 0)),.s (.pv (.string ⟨#[]⟩)),.s (.pv (.int .i64 0)),.s (.pv (.int .i64 0)),.s (.pv (.int .i64 0)),.s (.pv (.int .i64 0)),.s (.pv (.int .i64 0)),.s (.pv (.int .i64 0)),.s (.pv (.int .i64 0)),.s (.pv (.int .i64 0)),.s (.pv (.int .i64 0)),.s (.pv (.int .i64 0)),.s (.pv (.int .i64 0)),.s (.pv (.int .i64 0)),.s (.pv (.int .i64 0)),.s (.pv (.int .i64 0)),.s (.pv (.int .i64 0)),.s (.pv (.int .i64 0)),.s (.pv (.int .i64 0)),.s (.pv (.int .i64 0))]],none,[]⟩,
⟨none,99,.store 8 (.t 7) (.t 27),none,[7,4,2,0,1,2,3,4,7,8]⟩,
⟨none,100,.store 69 (.t 8) (.t 28),none,[8,5,9,0,1,2,3,4,5,7,8,9]⟩,
⟨some 9,9,.mv (.t 29),none,[6,10,0,1,2,3,4,5,6,7,8,9,10]⟩])
(.seq (.seq (.reg [⟨some 30,30,.mv (.t 9),none,[]⟩,
⟨some 31,31,.not (.t 30),none,[0]⟩])
(.cond (.t 31) (.seq (.reg [⟨some 6,6,.mv (.k (.c (.s (.pv (.bool false))))),none,[]⟩])
.ret) .skip))
(.seq (.seq (.reg [⟨some 10,10,.mv (.k (.c (.s (.pv (.int .i64 0))))),none,[]⟩])
(.block 0 (.loop (.seq (.seq (.reg [⟨some 32,32,.mv (.t 10),none,[]⟩,
⟨some 33,33,.mv (.t 2),none,[]⟩,
⟨some 34,34,.len (.t 33),none,[1]⟩,
⟨some 35,35,.bin false .lss (.t 32) (.t 34),none,[0,2]⟩,
⟨some 36,36,.mv (.t 35),none,[3]⟩,
⟨some 37,37,.mv (.t 10),(some (36,true)),[4]⟩,
⟨some 38,38,.bin false .lss (.t 37) (.k (.c (.s (.pv (.int .i64 80))))),(some (36,true)),[5,4]⟩,
⟨some 39,39,.pick (.t 36) (.t 38) (.k (.c (.s (.pv (.bool false))))),none,[4,6]⟩])
(.cond (.t 39) .skip (.exit 0)))
(.seq (.block 1 (.seq (.reg [⟨some 42,42,.mv (.t 2),none,[]⟩,
⟨some 43,43,.mv (.t 10),none,[]⟩,
⟨some 44,44,.idx 3 (.t 42) (.t 43),none,[0,1]⟩,
⟨some 45,45,.load true 3 (.t 44),none,[2]⟩,
⟨some 11,11,.mk 50 3 [[.s (.pv (.int .i64 0)),.s (.pv (.int .i64 0)),.s (.pv (.string ⟨#[]⟩))]],none,[]⟩,
⟨none,95,.store 3 (.t 11) (.t 45),none,[4,3,0,1,2,3,4]⟩])
(.seq (.reg [⟨some 47,47,.load true 8 (.t 7),none,[]⟩,
⟨some 48,48,.load true 3 (.t 11),none,[]⟩,
⟨some 49,49,.call 18 [.t 47,.t 48],none,[0,1]⟩,
⟨some 46,46,.mv (.t 49),none,[2]⟩,
⟨some 50,50,.ext 0 (.t 46),none,[3]⟩,
⟨some 51,51,.ext 1 (.t 46),none,[3]⟩,
⟨some 52,52,.ext 2 (.t 46),none,[3]⟩,
⟨some 53,53,.ext 3 (.t 46),none,[3]⟩,
⟨some 12,12,.mk 40 8 [[.zc,.s (.pv (.int .i64 0)),.zc,.zc,.zc,.zc,.zc,.s (.pv (.int .i64 0))]],none,[]⟩,
⟨some 13,13,.mk 42 3 [[.s (.pv (.int .i64 0)),.s (.pv (.int .i64 0)),.s (.pv (.string ⟨#[]⟩))]],none,[]⟩,
⟨none,100,.store 8 (.t 12) (.t 50),none,[8,4,2,0,1,2,3,4,8,9]⟩,
⟨none,101,.store 3 (.t 13) (.t 51),none,[9,5,10,0,1,2,3,4,5,8,9,10]⟩,
⟨some 14,14,.mv (.t 52),none,[6,11,0,1,2,3,4,5,6,8,9,10,11]⟩,
⟨some 15,15,.mv (.t 53),none,[7,12,0,1,2,3,4,5,6,7,8,9,10,11,12]⟩])
(.seq (.reg [⟨some 55,55,.load true 69 (.t 8),none,[]⟩,
⟨some 56,56,.fld 0 (.t 11),none,[]⟩,
⟨some 57,57,.load false 1 (.t 56),none,[1]⟩,
⟨some 58,58,.fld 1 (.t 11),none,[]⟩,
⟨some 59,59,.load false 1 (.t 58),none,[3]⟩,
⟨some 60,60,.fld 2 (.t 11),none,[]⟩,
⟨some 61,61,.load false 1 (.t 60),none,[5]⟩,
⟨some 62,62,.call 19 [.t 55,.t 57,.t 59,.t 61],none,[0,2,4,6]⟩,
⟨some 54,54,.mv (.t 62),none,[7]⟩,
⟨some 63,63,.ext 0 (.t 54),none,[8]⟩,
⟨some 64,64,.ext 1 (.t 54),none,[8]⟩,
⟨some 65,65,.ext 2 (.t 54),none,[8]⟩,
⟨some 16,16,.mk 46 69 [[.s (.pv (.int .i64 0)),.s (.pv (.int .i64 0)),.s (.pv (.string ⟨#[]⟩)),.s (.pv (.int .i64 0)),.s (.pv (.int .i64 0)),.s (.pv (.string ⟨#[]⟩)),.s (.pv (.int .i64 0)),.s (.pv (.int .i64 0)),.s (.pv (.string ⟨#[]⟩)),.s (.pv (.int .i64 0)),.s (.pv (.int .i64 0)),.s (.pv (.string ⟨#[]⟩)),.s (.pv (.int .i64 0)),.s (.pv (.int .i64 0)),.s (.pv (.string ⟨#[]⟩)),.s (.pv (.int .i64 0)),.s (.pv (.int .i64 0)),.s (.pv (.string ⟨#[]⟩)),.s (.pv (.int .i64 0)),.s (.pv (.int .i64 0)),.s (.pv (.string ⟨#[]⟩)),.s (.pv (.int .i64 0)),.s (.pv (.int .i64 0)),.s (.pv (.string ⟨#[]⟩)),.s (.pv (.int .i64 0)),.s (.pv (.int .i64 0)),.s (.pv (.string ⟨#[]⟩)),.s (.pv (.int .i64 0)),.s (.pv (.int .i64 0)),.s (.pv (.string ⟨#[]⟩)),.s (.pv (.int .i64 0)),.s (.pv (.int .i64 0)),.s (.pv (.string ⟨#[]⟩)),.s (.pv (.int .i64 0)),.s (.pv (.int .i64 0)),.s (.pv (.string ⟨#[]⟩)),.s (.pv (.int .i64 0)),.s (.pv (.int .i64 0)),.s (.pv (.string ⟨#[]⟩)),.s (.pv (.int .i64 0)),.s (.pv (.int .i64 0)),.s (.pv (.string ⟨#[]⟩)),.s (.pv (.int .i64 0)),.s (.pv (.int .i64 0)),.s (.pv (.string ⟨#[]⟩)),.s (.pv (.int .i64 0)),.s (.pv (.int .i64 0)),.s (.pv (.string ⟨#[]⟩)),.s (.pv (.int .i64 0)),.s (.pv (.int .i64 0)),.s (.pv (.string ⟨#[]⟩)),.s (.pv (.int .i64 0)),.s (.pv (.int .i64 0)),.s (.pv (.int .i64 0)),.s (.pv (.int .i64 0)),.s (.pv (.int .i64 0)),.s (.pv (.int .i64 0)),.s (.pv (.int .i64 0)),.s (.pv (.int .i64 0)),.s (.pv (.int .i64 0)),.s (.pv (.int .i64 0)),.s (.pv (.int .i64 0)),.s (.pv (.int .i64 0)),.s (.pv (.int .i64 0)),.s (.pv (.int .i64 0)),.s (.pv (.int .i64 0)),.s (.pv (.int .i64 0)),.s (.pv (.int .i64 0)),.s (.pv (.int .i64 0))]],none,[]⟩,
⟨some 17,17,.mk 42 3 [[.s (.pv (.int .i64 0)),.s (.pv (.int .i64 0)),.s (.pv (.string ⟨#[]⟩))]],none,[]⟩,
⟨none,104,.store 69 (.t 16) (.t 63),none,[12,9,7,0,1,2,3,4,5,6,7,8,9,12,13]⟩,
⟨none,105,.store 3 (.t 17) (.t 64),none,[13,10,14,0,1,2,3,4,5,6,7,8,9,10,12,13,14]⟩,
⟨some 18,18,.mv (.t 65),none,[11,15,0,1,2,3,4,5,6,7,8,9,10,11,12,13,14,15]⟩])
(.seq (.seq (.reg [⟨some 66,66,.load true 3 (.t 13),none,[]⟩,
⟨some 67,67,.load true 3 (.t 17),none,[]⟩,
⟨some 68,68,.eqs true 42 (.t 66) (.t 67),none,[0,1]⟩,
⟨some 69,69,.mv (.t 68),none,[2]⟩,
⟨some 70,70,.mv (.t 15),(some (69,false)),[3]⟩,
⟨some 71,71,.mv (.t 18),(some (69,false)),[3]⟩,
⟨some 72,72,.bin false .neq (.t 70) (.t 71),(some (69,false)),[4,5,3]⟩,
⟨some 73,73,.pick (.t 69) (.k (.c (.s (.pv (.bool true))))) (.t 72),none,[3,6]⟩])
(.cond (.t 73) (.seq (.reg [⟨some 6,6,.mv (.k (.c (.s (.pv (.bool false))))),none,[]⟩])
.ret) .skip))
(.seq (.draw [⟨some 74,74,.load true 8 (.t 12),none,[]⟩,
⟨some 75,75,.call 20 [.t 74,.k (.c (.s (.pv (.int .i64 3))))],none,[0]⟩,
⟨some 76,76,.load true 69 (.t 16),none,[]⟩,
⟨none,93,.store 8 (.t 7) (.t 75),none,[1,1,0,1]⟩,
⟨none,94,.store 69 (.t 8) (.t 76),none,[2,3,0,1,2,3]⟩])
(.seq (.reg [⟨some 77,77,.fld 7 (.t 7),none,[]⟩,
⟨some 78,78,.load false 1 (.t 77),none,[0]⟩,
⟨some 79,79,.mv (.t 10),none,[]⟩,
⟨some 80,80,.bin false .add (.t 79) (.k (.c (.s (.pv (.int .i64 1))))),none,[2]⟩,
⟨some 81,81,.bin false .mul (.k (.c (.s (.pv (.int .i64 3))))) (.t 80),none,[3]⟩,
⟨some 82,82,.bin false .neq (.t 78) (.t 81),none,[1,4]⟩,
⟨some 83,83,.mv (.t 82),none,[5]⟩,
⟨some 84,84,.fld 0 (.t 7),(some (83,false)),[6]⟩,
⟨some 85,85,.load true 5 (.t 84),(some (83,false)),[7,6]⟩,
⟨some 86,86,.call 21 [.t 85],(some (83,false)),[8,6,6]⟩,
⟨some 87,87,.not (.t 86),(some (83,false)),[9,6]⟩,
⟨some 88,88,.pick (.t 83) (.k (.c (.s (.pv (.bool true))))) (.t 87),none,[6,10]⟩])
(.cond (.t 88) (.seq (.reg [⟨some 6,6,.mv (.k (.c (.s (.pv (.bool false))))),none,[]⟩])
.ret) .skip))))))))
(.reg [⟨some 40,40,.mv (.t 10),none,[]⟩,
⟨some 41,41,.bin false .add (.t 40) (.k (.c (.s (.pv (.int .i64 1))))),none,[0]⟩,
⟨some 10,10,.mv (.t 41),none,[1,0,1]⟩]))))))
(.seq (.reg [⟨some 89,89,.call 16 [],none,[]⟩,
⟨some 6,6,.mv (.t 89),none,[0,0,0]⟩])
.ret))))))
theorem fn3 : FnIs Tryz.prog 3 ac3 [.t 6] 90 := ⟨Tryz.f3,Tryz.func3,by kernel_rfl,by kernel_rfl,by kernel_rfl⟩
def ac15 : ACode := (.seq (.reg [⟨some 2,2,.mv (.k (.c (.s (.pv (.bool false))))),none,[]⟩])
(.seq (.seq (.reg [⟨some 3,3,.mv (.k (.c (.s (.pv (.int .i64 0))))),none,[]⟩])
(.block 0 (.loop (.seq (.seq (.reg [⟨some 4,4,.mv (.t 3),none,[]⟩,
⟨some 5,5,.mv (.t 0),none,[]⟩,
⟨some 6,6,.len (.t 5),none,[1]⟩,
⟨some 7,7,.bin false .lss (.t 4) (.t 6),none,[0,2]⟩,
⟨some 8,8,.mv (.t 7),none,[3]⟩,
⟨some 9,9,.mv (.t 3),(some (8,true)),[4]⟩,
⟨some 10,10,.bin false .lss (.t 9) (.k (.c (.s (.pv (.int .i64 80))))),(some (8,true)),[5,4]⟩,
⟨some 11,11,.pick (.t 8) (.t 10) (.k (.c (.s (.pv (.bool false))))),none,[4,6]⟩])
(.cond (.t 11) .skip (.exit 0)))
(.seq (.block 1 (.seq (.reg [⟨some 14,14,.mv (.t 0),none,[]⟩,
⟨some 15,15,.mv (.t 3),none,[]⟩,
⟨some 16,16,.idx 3 (.t 14) (.t 15),none,[0,1]⟩,
⟨some 17,17,.fld 2 (.t 16),none,[2]⟩,
⟨some 18,18,.load false 1 (.t 17),none,[3]⟩,
⟨some 19,19,.slen (.t 18),none,[4]⟩,
⟨some 20,20,.bin false .gtr (.t 19) (.k (.c (.s (.pv (.int .i64 100))))),none,[5]⟩])
(.cond (.t 20) (.seq (.reg [⟨some 2,2,.mv (.k (.c (.s (.pv (.bool false))))),none,[]⟩])
.ret) .skip)))
(.reg [⟨some 12,12,.mv (.t 3),none,[]⟩,
⟨some 13,13,.bin false .add (.t 12) (.k (.c (.s (.pv (.int .i64 1))))),none,[0]⟩,
⟨some 3,3,.mv (.t 13),none,[1,0,1]⟩]))))))
(.seq (.reg [⟨some 2,2,.mv (.k (.c (.s (.pv (.bool true))))),none,[]⟩])
.ret)))
theorem fn15 : FnIs Tryz.prog 15 ac15 [.t 2] 21 := ⟨Tryz.f15,Tryz.func15,by kernel_rfl,by kernel_rfl,by kernel_rfl⟩
def ac16 : ACode := (.seq (.reg [⟨some 0,0,.mv (.k (.c (.s (.pv (.bool false))))),none,[]⟩])
(.seq (.reg [⟨some 24,24,.call 39 [.k (.c (.s (.pv (.int .i64 35))))],none,[]⟩,
⟨some 23,23,.mv (.t 24),none,[0]⟩,
⟨some 25,25,.ext 0 (.t 23),none,[1]⟩,
⟨some 26,26,.ext 1 (.t 23),none,[1]⟩,
⟨some 1,1,.mk 38 2 [[.zc,.zc]],none,[]⟩,
⟨none,131,.store 2 (.t 1) (.t 25),none,[4,2,0,0,1,2,4]⟩,
⟨some 2,2,.mv (.t 26),none,[3,5,0,1,2,3,4,5]⟩])
(.seq (.reg [⟨some 28,28,.load true 2 (.t 1),none,[]⟩,
⟨some 29,29,.call 25 [.t 28,.k (.c (.s (.pv (.int .i64 1))))],none,[0]⟩,
⟨some 27,27,.mv (.t 29),none,[1]⟩,
⟨some 30,30,.ext 0 (.t 27),none,[2]⟩,
⟨some 31,31,.ext 1 (.t 27),none,[2]⟩,
⟨some 3,3,.mk 40 8 [[.zc,.s (.pv (.int .i64 0)),.zc,.zc,.zc,.zc,.zc,.s (.pv (.int .i64 0))]],none,[]⟩,
⟨none,132,.store 8 (.t 3) (.t 30),none,[5,3,1,0,1,2,3,5]⟩,
⟨some 4,4,.mv (.t 31),none,[4,6,0,1,2,3,4,5,6]⟩])
(.seq (.reg [⟨some 33,33,.load true 8 (.t 3),none,[]⟩,
⟨some 34,34,.build [.s (.pv (.int .i64 0)),.s (.pv (.int .i64 0)),.s (.pv (.string ⟨#[]⟩))] [(0,1,(.k (.c (.s (.pv (.int .i64 2)))))),(1,1,(.k (.c (.s (.pv (.int .i64 3))))))],none,[]⟩,
⟨some 35,35,.call 18 [.t 33,.t 34],none,[0,1]⟩,
⟨some 32,32,.mv (.t 35),none,[2]⟩,
⟨some 36,36,.ext 0 (.t 32),none,[3]⟩,
⟨some 37,37,.ext 1 (.t 32),none,[3]⟩,
⟨some 38,38,.ext 2 (.t 32),none,[3]⟩,
⟨some 39,39,.ext 3 (.t 32),none,[3]⟩,
⟨some 5,5,.mk 42 3 [[.s (.pv (.int .i64 0)),.s (.pv (.int .i64 0)),.s (.pv (.string ⟨#[]⟩))]],none,[]⟩,
⟨none,135,.store 8 (.t 3) (.t 36),none,[4,2,0,1,2,3,4,8]⟩,
⟨none,136,.store 3 (.t 5) (.t 37),none,[8,5,9,0,1,2,3,4,5,8,9]⟩,
⟨some 6,6,.mv (.t 38),none,[6,10,0,1,2,3,4,5,6,8,9,10]⟩,
⟨some 7,7,.mv (.t 39),none,[7,11,0,1,2,3,4,5,6,7,8,9,10,11]⟩])
(.seq (.reg [⟨some 41,41,.load true 8 (.t 3),none,[]⟩,
⟨some 42,42,.build [.s (.pv (.int .i64 0)),.s (.pv (.int .i64 0)),.s (.pv (.string ⟨#[]⟩))] [(0,1,(.k (.c (.s (.pv (.int .i64 4)))))),(1,1,(.k (.c (.s (.pv (.int .i64 3)))))),(2,1,(.k (.c (.s (.pv (.string ⟨#[120]⟩))))))],none,[]⟩,
⟨some 43,43,.call 18 [.t 41,.t 42],none,[0,1]⟩,
⟨some 40,40,.mv (.t 43),none,[2]⟩,
⟨some 44,44,.ext 0 (.t 40),none,[3]⟩,
⟨some 45,45,.ext 1 (.t 40),none,[3]⟩,
⟨some 46,46,.ext 2 (.t 40),none,[3]⟩,
⟨some 47,47,.ext 3 (.t 40),none,[3]⟩,
⟨some 8,8,.mk 42 3 [[.s (.pv (.int .i64 0)),.s (.pv (.int .i64 0)),.s (.pv (.string ⟨#[]⟩))]],none,[]⟩,
⟨none,135,.store 8 (.t 3) (.t 44),none,[4,2,0,1,2,3,4,8]⟩,
⟨none,136,.store 3 (.t 8) (.t 45),none,[8,5,9,0,1,2,3,4,5,8,9]⟩,
⟨some 9,9,.mv (.t 46),none,[6,10,0,1,2,3,4,5,6,8,9,10]⟩,
⟨some 10,10,.mv (.t 47),none,[7,11,0,1,2,3,4,5,6,7,8,9,10,11]⟩])
(.seq (.reg [⟨some 49,49,.load true 8 (.t 3),none,[]⟩,
⟨some 50,50,.build [.s (.pv (.int .i64 0)),.s (.pv (.int .i64 0)),.s (.pv (.string ⟨#[]⟩))] [(0,1,(.k (.c (.s (.pv (.int .i64 2)))))),(1,1,(.k (.c (.s (.pv (.int .i64 4))))))],none,[]⟩,
⟨some 51,51,.call 18 [.t 49,.t 50],none,[0,1]⟩,
⟨some 48,48,.mv (.t 51),none,[2]⟩,
⟨some 52,52,.ext 0 (.t 48),none,[3]⟩,
⟨some 53,53,.ext 1 (.t 48),none,[3]⟩,
⟨some 54,54,.ext 2 (.t 48),none,[3]⟩,
⟨some 55,55,.ext 3 (.t 48),none,[3]⟩,
⟨some 11,11,.mk 40 8 [[.zc,.s (.pv (.int .i64 0)),.zc,.zc,.zc,.zc,.zc,.s (.pv (.int .i64 0))]],none,[]⟩,
⟨some 12,12,.mk 42 3 [[.s (.pv (.int .i64 0)),.s (.pv (.int .i64 0)),.s (.pv (.string ⟨#[]⟩))]],none,[]⟩,
⟨none,136,.store 8 (.t 11) (.t 52),none,[8,4,2,0,1,2,3,4,8,9]⟩,
⟨none,137,.store 3 (.t 12) (.t 53),none,[9,5,10,0,1,2,3,4,5,8,9,10]⟩,
⟨some 13,13,.mv (.t 54),none,[6,11,0,1,2,3,4,5,6,8,9,10,11]⟩,
⟨some 14,14,.mv (.t 55),none,[7,12,0,1,2,3,4,5,6,7,8,9,10,11,12]⟩])
(.seq (.reg [⟨some 57,57,.load true 8 (.t 3),none,[]⟩,
⟨some 58,58,.build [.s (.pv (.int .i64 0)),.s (.pv (.int .i64 0)),.s (.pv (.string ⟨#[]⟩))] [(0,1,(.k (.c (.s (.pv (.int .i64 5)))))),(1,1,(.k (.c (.s (.pv (.int .i64 3))))))],none,[]⟩,
⟨some 59,59,.call 18 [.t 57,.t 58],none,[0,1]⟩,
⟨some 56,56,.mv (.t 59),none,[2]⟩,
⟨some 60,60,.ext 0 (.t 56),none,[3]⟩,
⟨some 61,61,.ext 1 (.t 56),none,[3]⟩,
⟨some 62,62,.ext 2 (.t 56),none,[3]⟩,
⟨some 63,63,.ext 3 (.t 56),none,[3]⟩,
⟨some 15,15,.mk 42 3 [[.s (.pv (.int .i64 0)),.s (.pv (.int .i64 0)),.s (.pv (.string ⟨#[]⟩))]],none,[]⟩,
⟨none,135,.store 8 (.t 3) (.t 60),none,[4,2,0,1,2,3,4,8]⟩,
⟨none,136,.store 3 (.t 15) (.t 61),none,[8,5,9,0,1,2,3,4,5,8,9]⟩,
⟨some 16,16,.mv (.t 62),none,[6,10,0,1,2,3,4,5,6,8,9,10]⟩,
⟨some 17,17,.mv (.t 63),none,[7,11,0,1,2,3,4,5,6,7,8,9,10,11]⟩])
(.seq (.reg [⟨some 65,65,.load true 8 (.t 3),none,[]⟩,
⟨some 66,66,.build [.s (.pv (.int .i64 0)),.s (.pv (.int .i64 0)),.s (.pv (.string ⟨#[]⟩))] [(0,1,(.k (.c (.s (.pv (.int .i64 2)))))),(1,1,(.k (.c (.s (.pv (.int .i64 4))))))],none,[]⟩,
⟨some 67,67,.call 18 [.t 65,.t 66],none,[0,1]⟩,
⟨some 64,64,.mv (.t 67),none,[2]⟩,
⟨some 68,68,.ext 0 (.t 64),none,[3]⟩,
⟨some 69,69,.ext 1 (.t 64),none,[3]⟩,
⟨some 70,70,.ext 2 (.t 64),none,[3]⟩,
⟨some 71,71,.ext 3 (.t 64),none,[3]⟩,
⟨some 18,18,.mk 42 3 [[.s (.pv (.int .i64 0)),.s (.pv (.int .i64 0)),.s (.pv (.string ⟨#[]⟩))]],none,[]⟩,
⟨none,135,.store 8 (.t 3) (.t 68),none,[4,2,0,1,2,3,4,8]⟩,
⟨none,136,.store 3 (.t 18) (.t 69),none,[8,5,9,0,1,2,3,4,5,8,9]⟩,
⟨some 19,19,.mv (.t 70),none,[6,10,0,1,2,3,4,5,6,8,9,10]⟩,
⟨some 20,20,.mv (.t 71),none,[7,11,0,1,2,3,4,5,6,7,8,9,10,11]⟩])
(.seq (.reg [⟨some 73,73,.fld 5 (.t 3),none,[]⟩,
⟨some 74,74,.load true 2 (.t 73),none,[0]⟩,
⟨some 75,75,.call 24 [.t 74,.k (.c (.s (.pv (.int .i64 3))))],none,[1]⟩,
⟨some 72,72,.mv (.t 75),none,[2]⟩,
⟨some 76,76,.ext 0 (.t 72),none,[3]⟩,
⟨some 77,77,.ext 1 (.t 72),none,[3]⟩,
⟨some 21,21,.mk 42 3 [[.s (.pv (.int .i64 0)),.s (.pv (.int .i64 0)),.s (.pv (.string ⟨#[]⟩))]],none,[]⟩,
⟨none,133,.store 3 (.t 21) (.t 76),none,[6,4,2,0,1,2,3,4,6]⟩,
⟨some 22,22,.mv (.t 77),none,[5,7,0,1,2,3,4,5,6,7]⟩])
(.seq (.reg [⟨some 78,78,.mv (.t 4),none,[]⟩,
⟨some 79,79,.bin false .eql (.t 78) (.k (.c (.s (.pv (.int .i64 0))))),none,[0]⟩,
⟨some 80,80,.mv (.t 79),none,[1]⟩,
⟨some 81,81,.load true 3 (.t 5),(some (80,true)),[2]⟩,
⟨some 82,82,.build [.s (.pv (.int .i64 0)),.s (.pv (.int .i64 0)),.s (.pv (.string ⟨#[]⟩))] [(0,1,(.k (.c (.s (.pv (.int .i64 3)))))),(1,1,(.k (.c (.s (.pv (.int .i64 1))))))],(some (80,true)),[2]⟩,
⟨some 83,83,.eqs false 42 (.t 81) (.t 82),(some (80,true)),[3,4,2]⟩,
⟨some 84,84,.pick (.t 80) (.t 83) (.k (.c (.s (.pv (.bool false))))),none,[2,5]⟩,
⟨some 85,85,.mv (.t 84),none,[6,2]⟩,
⟨some 86,86,.mv (.t 7),(some (85,true)),[7]⟩,
⟨some 87,87,.bin false .eql (.t 86) (.k (.c (.s (.pv (.int .i64 0))))),(some (85,true)),[8,7]⟩,
⟨some 88,88,.pick (.t 85) (.t 87) (.k (.c (.s (.pv (.bool false))))),none,[7,9]⟩,
⟨some 89,89,.mv (.t 88),none,[10,7]⟩,
⟨some 90,90,.load true 3 (.t 8),(some (89,true)),[11]⟩,
⟨some 91,91,.build [.s (.pv (.int .i64 0)),.s (.pv (.int .i64 0)),.s (.pv (.string ⟨#[]⟩))] [(0,1,(.k (.c (.s (.pv (.int .i64 3)))))),(1,1,(.k (.c (.s (.pv (.int .i64 2)))))),(2,1,(.k (.c (.s (.pv (.string ⟨#[120]⟩))))))],(some (89,true)),[11]⟩,
⟨some 92,92,.eqs false 42 (.t 90) (.t 91),(some (89,true)),[12,13,11]⟩,
⟨some 93,93,.pick (.t 89) (.t 92) (.k (.c (.s (.pv (.bool false))))),none,[11,14]⟩,
⟨some 94,94,.mv (.t 93),none,[15,11]⟩,
⟨some 95,95,.mv (.t 10),(some (94,true)),[16]⟩,
⟨some 96,96,.bin false .eql (.t 95) (.k (.c (.s (.pv (.int .i64 0))))),(some (94,true)),[17,16]⟩,
⟨some 97,97,.pick (.t 94) (.t 96) (.k (.c (.s (.pv (.bool false))))),none,[16,18]⟩,
⟨some 98,98,.mv (.t 97),none,[19,16]⟩,
⟨some 99,99,.mv (.t 14),(some (98,true)),[20]⟩,
⟨some 100,100,.bin false .eql (.t 99) (.k (.c (.s (.pv (.int .i64 6))))),(some (98,true)),[21,20]⟩,
⟨some 101,101,.pick (.t 98) (.t 100) (.k (.c (.s (.pv (.bool false))))),none,[20,22]⟩,
⟨some 102,102,.mv (.t 101),none,[23,20]⟩,
⟨some 103,103,.mv (.t 17),(some (102,true)),[24]⟩,
⟨some 104,104,.bin false .eql (.t 103) (.k (.c (.s (.pv (.int .i64 0))))),(some (102,true)),[25,24]⟩,
⟨some 105,105,.pick (.t 102) (.t 104) (.k (.c (.s (.pv (.bool false))))),none,[24,26]⟩,
⟨some 106,106,.mv (.t 105),none,[27,24]⟩,
⟨some 107,107,.mv (.t 19),(some (106,true)),[28]⟩,
⟨some 108,108,.len (.t 107),(some (106,true)),[29,28]⟩,
⟨some 109,109,.bin false .eql (.t 108) (.k (.c (.s (.pv (.int .i64 10))))),(some (106,true)),[30,28]⟩,
⟨some 110,110,.pick (.t 106) (.t 109) (.k (.c (.s (.pv (.bool false))))),none,[28,31]⟩,
⟨some 111,111,.mv (.t 110),none,[32,28]⟩,
⟨some 112,112,.mv (.t 20),(some (111,true)),[33]⟩,
⟨some 113,113,.bin false .eql (.t 112) (.k (.c (.s (.pv (.int .i64 0))))),(some (111,true)),[34,33]⟩,
⟨some 114,114,.pick (.t 111) (.t 113) (.k (.c (.s (.pv (.bool false))))),none,[33,35]⟩,
⟨some 115,115,.mv (.t 114),none,[36,33]⟩,
⟨some 116,116,.load true 3 (.t 21),(some (115,true)),[37]⟩,
⟨some 117,117,.load true 3 (.t 8),(some (115,true)),[37]⟩,
⟨some 118,118,.eqs false 42 (.t 116) (.t 117),(some (115,true)),[38,39,37]⟩,
⟨some 119,119,.pick (.t 115) (.t 118) (.k (.c (.s (.pv (.bool false))))),none,[37,40]⟩,
⟨some 120,120,.mv (.t 119),none,[41,37]⟩,
⟨some 121,121,.mv (.t 22),(some (120,true)),[42]⟩,
⟨some 122,122,.bin false .eql (.t 121) (.k (.c (.s (.pv (.int .i64 0))))),(some (120,true)),[43,42]⟩,
⟨some 123,123,.pick (.t 120) (.t 122) (.k (.c (.s (.pv (.bool false))))),none,[42,44]⟩,
⟨some 124,124,.mv (.t 123),none,[45,42]⟩,
⟨some 125,125,.pick (.t 124) (.k (.c (.s (.pv (.bool true))))) (.k (.c (.s (.pv (.bool false))))),none,[46]⟩,
⟨some 0,0,.mv (.t 125),none,[47,46,0,1,2,3,4,5,6,7,8,9,10,11,12,13,14,15,16,17,18,19,20,21,22,23,24,25,26,27,28,29,30,31,32,33,34,35,36,37,38,39,40,41,42,43,44,45,46,47]⟩])
.ret))))))))))
theorem fn16 : FnIs Tryz.prog 16 ac16 [.t 0] 126 := ⟨Tryz.f16,Tryz.func16,by kernel_rfl,by kernel_rfl,by kernel_rfl⟩
def ac17 : ACode := (.seq (.reg [⟨some 4,4,.mk 40 8 [[.zc,.s (.pv (.int .i64 0)),.zc,.zc,.zc,.zc,.zc,.s (.pv (.int .i64 0))]],none,[]⟩,
⟨some 5,5,.mk 46 69 [[.s (.pv (.int .i64 0)),.s (.pv (.int .i64 0)),.s (.pv (.string ⟨#[]⟩)),.s (.pv (.int .i64 0)),.s (.pv (.int .i64 0)),.s (.pv (.string ⟨#[]⟩)),.s (.pv (.int .i64 0)),.s (.pv (.int .i64 0)),.s (.pv (.string ⟨#[]⟩)),.s (.pv (.int .i64 0)),.s (.pv (.int .i64 0)),.s (.pv (.string ⟨#[]⟩)),.s (.pv (.int .i64 0)),.s (.pv (.int .i64 0)),.s (.pv (.string ⟨#[]⟩)),.s (.pv (.int .i64 0)),.s (.pv (.int .i64 0)),.s (.pv (.string ⟨#[]⟩)),.s (.pv (.int .i64 0)),.s (.pv (.int .i64 0)),.s (.pv (.string ⟨#[]⟩)),.s (.pv (.int .i64 0)),.s (.pv (.int .i64 0)),.s (.pv (.string ⟨#[]⟩)),.s (.pv (.int .i64 0)),.s (.pv (.int .i64 0)),.s (.pv (.string ⟨#[]⟩)),.s (.pv (.int .i64 0)),.s (.pv (.int .i64 0)),.s (.pv (.string ⟨#[]⟩)),.s (.pv (.int .i64 0)),.s (.pv (.int .i64 0)),.s (.pv (.string ⟨#[]⟩)),.s (.pv (.int .i64 0)),.s (.pv (.int .i64 0)),.s (.pv (.string ⟨#[]⟩)),.s (.pv (.int .i64 0)),.s (.pv (.int .i64 0)),.s (.pv (.string ⟨#[]⟩)),.s (.pv (.int .i64 0)),.s (.pv (.int .i64 0)),.s (.pv (.string ⟨#[]⟩)),.s (.pv (.int .i64 0)),.s (.pv (.int .i64 0)),.s (.pv (.string ⟨#[]⟩)),.s (.pv (.int .i64 0)),.s (.pv (.int .i64 0)),.s (.pv (.string ⟨#[]⟩)),.s (.pv (.int .i64 0)),.s (.pv (.int .i64 0)),.s (.pv (.string ⟨#[]⟩)),.s (.pv (.int .i64 0)),.s (.pv (.int .i64 0)),.s (.pv (.int .i64 0)),.s (.pv (.int .i64 0)),.s (.pv (.int .i64 0)),.s (.pv (.int .i64 0)),.s (.pv (.int .i64 0)),.s (.pv (.int .i64 0)),.s (.pv (.int .i64 0)),.s (.pv (.int .i64 0)),.s (.pv (.int .i64 0)),.s (.pv (.int .i64 0)),.s (.pv (.int .i64 0)),.s (.pv (.int .i64 0)),.s (.pv (.int .i64 0)),.s (.pv (.int .i64 0)),.s (.pv (.int .i64 0)),.s (.pv (.int .i64 0))]],none,[]⟩,
⟨some 6,6,.mv (.k (.c (.s (.pv (.bool false))))),none,[]⟩])
(.seq (.reg [⟨some 16,16,.call 39 [.k (.c (.s (.pv (.int .i64 35))))],none,[]⟩,
⟨some 15,15,.mv (.t 16),none,[0]⟩,
⟨some 17,17,.ext 0 (.t 15),none,[1]⟩,
⟨some 18,18,.ext 1 (.t 15),none,[1]⟩,
⟨some 7,7,.mk 38 2 [[.zc,.zc]],none,[]⟩,
⟨none,102,.store 2 (.t 7) (.t 17),none,[4,2,0,0,1,2,4]⟩,
⟨some 8,8,.mv (.t 18),none,[3,5,0,1,2,3,4,5]⟩])
(.seq (.reg [⟨some 19,19,.mv (.t 0),none,[]⟩,
⟨some 20,20,.bin false .rem (.t 19) (.k (.c (.s (.pv (.int .u8 8))))),none,[0]⟩,
⟨some 21,21,.conv .i64 (.t 20),none,[1]⟩,
⟨some 22,22,.bin false .add (.k (.c (.s (.pv (.int .i64 1))))) (.t 21),none,[2]⟩,
⟨some 9,9,.mv (.t 22),none,[3,0,1,2,3]⟩])
(.seq (.reg [⟨some 23,23,.mv (.t 9),none,[]⟩,
⟨some 24,24,.build [.s (.pv (.int .i64 0)),.s (.pv (.int .i64 0)),.s (.pv (.string ⟨#[]⟩)),.s (.pv (.int .i64 0)),.s (.pv (.int .i64 0)),.s (.pv (.string ⟨#[]⟩)),.s (.pv (.int .i64 0)),.s (.pv (.int .i64 0)),.s (.pv (.string ⟨#[]⟩)),.s (.pv (.int .i64 0)),.s (.pv (.int .i64 0)),.s (.pv (.string ⟨#[]⟩)),.s (.pv (.int .i64 0)),.s (.pv (.int .i64 0)),.s (.pv (.string ⟨#[]⟩)),.s (.pv (.int .i64 0)),.s (.pv (.int .i64 0)),.s (.pv (.string ⟨#[]⟩)),.s (.pv (.int .i64 0)),.s (.pv (.int .i64 0)),.s (.pv (.string ⟨#[]⟩)),.s (.pv (.int .i64 0)),.s (.pv (.int .i64 0)),.s (.pv (.string ⟨#[]⟩)),.s (.pv (.int .i64 0)),.s (.pv (.int .i64 0)),.s (.pv (.string ⟨#[]⟩)),.s (.pv (.int .i64 0)),.s (.pv (.int .i64 0)),.s (.pv (.string ⟨#[]⟩)),.s (.pv (.int .i64 0)),.s (.pv (.int .i64 0)),.s (.pv (.string ⟨#[]⟩)),.s (.pv (.int .i64 0)),.s (.pv (.int .i64 0)),.s (.pv (.string ⟨#[]⟩)),.s (.pv (.int .i64 0)),.s (.pv (.int .i64 0)),.s (.pv (.string ⟨#[]⟩)),.s (.pv (.int .i64 0)),.s (.pv (.int .i64 0)),.s (.pv (.string ⟨#[]⟩)),.s (.pv (.int .i64 0)),.s (.pv (.int .i64 0)),.s (.pv (.string ⟨#[]⟩)),.s (.pv (.int .i64 0)),.s (.pv (.int .i64 0)),.s (.pv (.string ⟨#[]⟩)),.s (.pv (.int .i64 0)),.s (.pv (.int .i64 0)),.s (.pv (.string ⟨#[]⟩)),.s (.pv (.int .i64 0)),.s (.pv (.int .i64 0)),.s (.pv (.int .i64 0)),.s (.pv (.int .i64 0)),.s (.pv (.int .i64 0)),.s (.pv (.int .i64 0)),.s (.pv (.int .i64 0)),.s (.pv (.int .i64 0)),.s (.pv (.int .i64 0)),.s (.pv (.int .i64 0)),.s (.pv (.int .i64 0)),.s (.pv (.int .i64 0)),.s (.pv (.int .i64 0)),.s (.pv (.int .i64 0)),.s (.pv (.int .i64 0)),.s (.pv (.int .i64 0)),.s (.pv (.int .i64 0)),.s (.pv (.int .i64 0))] [(68,1,(.t 23))],none,[0]⟩,
⟨some 10,10,.mk 46 69 [[.s (.pv (.int .i64 0)),.s (.pv (.int .i64 0)),.s (.pv (.string ⟨#[]⟩)),.s (.pv (.int .i64 0)),.s (.pv (.int .i64 0)),.s (.pv (.string ⟨#[]⟩)),.s (.pv (.int .i64 0)),.s (.pv (.int .i64 0)),.s (.pv (.string ⟨#[]⟩)),.s (.pv (.int .i64 0)),.s (.pv (.int .i64 0)),.s (.pv (.string ⟨#[]⟩)),.s (.pv (.int .i64 0)),.s (.pv (.int .i64 0)),.s (.pv (.string ⟨#[]⟩)),.s (.pv (.int .i64 0)),.s (.pv (.int .i64 0)),.s (.pv (.string ⟨#[]⟩)),.s (.pv (.int .i64 0)),.s (.pv (.int .i64 0)),.s (.pv (.string ⟨#[]⟩)),.s (.pv (.int .i64 0)),.s (.pv (.int .i64 0)),.s (.pv (.string ⟨#[]⟩)),.s (.pv (.int .i64 0)),.s (.pv (.int .i64 0)),.s (.pv (.string ⟨#[]⟩)),.s (.pv (.int .i64 0)),.s (.pv (.int .i64 0)),.s (.pv (.string ⟨#[]⟩)),.s (.pv (.int .i64 0)),.s (.pv (.int .i64 0)),.s (.pv (.string ⟨#[]⟩)),.s (.pv (.int .i64 0)),.s (.pv (.int .i64 0)),.s (.pv (.string ⟨#[]⟩)),.s (.pv (.int .i64 0)),.s (.pv (.int .i64 0)),.s (.pv (.string ⟨#[]⟩)),.s (.pv (.int .i64 0)),.s (.pv (.int .i64 0)),.s (.pv (.string ⟨#[]⟩)),.s (.pv (.int .i64 0)),.s (.pv (.int .i64 0)),.s (.pv (.string ⟨#[]⟩)),.s (.pv (.int .i64 0)),.s (.pv (.int .i64 0)),.s (.pv (.string ⟨#[]⟩)),.s (.pv (.int .i64 0)),.s (.pv (.int .i64 0)),.s (.pv (.string ⟨#[]⟩)),.s (.pv (.int .i64 0)),.s (.pv (.int .i64 0)),.s (.pv (.int .i64 0)),.s (.pv (.int .i64 0)),.s (.pv (.int .i64 0)),.s (.pv (.int .i64 0)),.s (.pv (.int .i64 0)),.s (.pv (.int .i64 0)),.s (.pv (.int .i64 0)),.s (.pv (.int .i64 0)),.s (.pv (.int .i64 0)),.s (.pv (.int .i64 0)),.s (.pv (.int .i64 0)),.s (.pv (.int .i64 0)),.s (.pv (.int .i64 0)),.s (.pv (.int .i64 0)),.s (.pv (.int .i64 0)),.s (.pv (.int .i64 0))]],none,[]⟩,
⟨none,100,.store 69 (.t 10) (.t 24),none,[2,1,0,1,2]⟩])
(.seq (.seq (.reg [⟨some 11,11,.mv (.k (.c (.s (.pv (.int .i64 0))))),none,[]⟩])
(.block 0 (.loop (.seq (.seq (.reg [⟨some 25,25,.mv (.t 11),none,[]⟩,
⟨some 26,26,.mv (.t 1),none,[]⟩,
⟨some 27,27,.len (.t 26),none,[1]⟩,
⟨some 28,28,.bin false .lss (.t 25) (.t 27),none,[0,2]⟩,
⟨some 29,29,.mv (.t 28),none,[3]⟩,
⟨some 30,30,.mv (.t 11),(some (29,true)),[4]⟩,
⟨some 31,31,.bin false .lss (.t 30) (.k (.c (.s (.pv (.int .i64 16))))),(some (29,true)),[5,4]⟩,
⟨some 32,32,.pick (.t 29) (.t 31) (.k (.c (.s (.pv (.bool false))))),none,[4,6]⟩])
(.cond (.t 32) .skip (.exit 0)))
(.seq (.block 1 (.seq (.draw [⟨some 35,35,.load true 2 (.t 7),none,[]⟩,
⟨some 36,36,.mv (.t 1),none,[]⟩,
⟨some 37,37,.mv (.t 11),none,[]⟩,
⟨some 38,38,.idx 3 (.t 36) (.t 37),none,[1,2]⟩,
⟨some 39,39,.load true 3 (.t 38),none,[3]⟩,
⟨some 40,40,.call 40 [.t 35,.t 39],none,[0,4]⟩,
⟨some 12,12,.mv (.t 40),none,[5,5,0,1,2,3,4,5]⟩])
(.seq (.seq (.reg [⟨some 41,41,.mv (.t 12),none,[]⟩,
⟨some 42,42,.len (.t 41),none,[0]⟩,
⟨some 43,43,.bin false .eql (.t 42) (.k (.c (.s (.pv (.int .i64 0))))),none,[1]⟩,
⟨some 44,44,.mv (.t 43),none,[2]⟩,
⟨some 45,45,.mv (.t 1),(some (44,false)),[3]⟩,
⟨some 46,46,.mv (.t 11),(some (44,false)),[3]⟩,
⟨some 47,47,.idx 3 (.t 45) (.t 46),(some (44,false)),[4,5,3]⟩,
⟨some 48,48,.fld 1 (.t 47),(some (44,false)),[6,3]⟩,
⟨some 49,49,.load false 1 (.t 48),(some (44,false)),[7,3]⟩,
⟨some 50,50,.bin false .eql (.t 49) (.k (.c (.s (.pv (.int .i64 0))))),(some (44,false)),[8,3]⟩,
⟨some 51,51,.pick (.t 44) (.k (.c (.s (.pv (.bool true))))) (.t 50),none,[3,9]⟩,
⟨some 52,52,.mv (.t 51),none,[10,3]⟩,
⟨some 53,53,.mv (.t 1),(some (52,false)),[11]⟩,
⟨some 54,54,.mv (.t 11),(some (52,false)),[11]⟩,
⟨some 55,55,.idx 3 (.t 53) (.t 54),(some (52,false)),[12,13,11]⟩,
⟨some 56,56,.fld 1 (.t 55),(some (52,false)),[14,11]⟩,
⟨some 57,57,.load false 1 (.t 56),(some (52,false)),[15,11]⟩,
⟨some 58,58,.bin false .gtr (.t 57) (.k (.c (.s (.pv (.int .i64 1073741824))))),(some (52,false)),[16,11]⟩,
⟨some 59,59,.pick (.t 52) (.k (.c (.s (.pv (.bool true))))) (.t 58),none,[11,17]⟩])
(.cond (.t 59) (.exit 1) .skip))
(.seq (.reg [⟨some 60,60,.load true 2 (.t 7),none,[]⟩,
⟨some 61,61,.mv (.t 12),none,[]⟩,
⟨some 62,62,.call 28 [.t 60,.t 61,.k (.c (.s (.pv (.int .i64 99))))],none,[0,1]⟩,
⟨none,100,.store 2 (.t 7) (.t 62),none,[2,2,0,1,2]⟩])
(.draw [⟨some 63,63,.mv (.t 1),none,[]⟩,
⟨some 64,64,.mv (.t 11),none,[]⟩,
⟨some 65,65,.idx 3 (.t 63) (.t 64),none,[0,1]⟩,
⟨some 66,66,.fld 0 (.t 65),none,[2]⟩,
⟨some 67,67,.load false 1 (.t 66),none,[3]⟩,
⟨some 68,68,.mv (.t 1),none,[]⟩,
⟨some 69,69,.mv (.t 11),none,[]⟩,
⟨some 70,70,.idx 3 (.t 68) (.t 69),none,[5,6]⟩,
⟨some 71,71,.load true 3 (.t 70),none,[7]⟩,
⟨some 72,72,.fld 0 (.t 10),none,[]⟩,
⟨some 73,73,.aidx 17 3 (.t 72) (.t 67),none,[9,4,0,1,2,3,4,5,6,7,8]⟩,
⟨none,108,.store 3 (.t 73) (.t 71),none,[10,8,0,1,2,3,4,5,6,7,8]⟩])))))
(.reg [⟨some 33,33,.mv (.t 11),none,[]⟩,
⟨some 34,34,.bin false .add (.t 33) (.k (.c (.s (.pv (.int .i64 1))))),none,[0]⟩,
⟨some 11,11,.mv (.t 34),none,[1,0,1]⟩]))))))
(.seq (.reg [⟨some 75,75,.load true 2 (.t 7),none,[]⟩,
⟨some 76,76,.mv (.t 9),none,[]⟩,
⟨some 77,77,.call 25 [.t 75,.t 76],none,[0,1]⟩,
⟨some 74,74,.mv (.t 77),none,[2]⟩,
⟨some 78,78,.ext 0 (.t 74),none,[3]⟩,
⟨some 79,79,.ext 1 (.t 74),none,[3]⟩,
⟨some 13,13,.mk 40 8 [[.zc,.s (.pv (.int .i64 0)),.zc,.zc,.zc,.zc,.zc,.s (.pv (.int .i64 0))]],none,[]⟩,
⟨none,104,.store 8 (.t 13) (.t 78),none,[6,4,2,0,1,2,3,4,6]⟩,
⟨some 14,14,.mv (.t 79),none,[5,7,0,1,2,3,4,5,6,7]⟩])
(.seq (.draw [⟨some 80,80,.load true 8 (.t 13),none,[]⟩,
⟨some 81,81,.load true 69 (.t 10),none,[]⟩,
⟨some 82,82,.mv (.t 14),none,[]⟩,
⟨some 83,83,.bin false .eql (.t 82) (.k (.c (.s (.pv (.int .i64 0))))),none,[2]⟩,
⟨some 84,84,.mv (.t 83),none,[3]⟩,
⟨some 85,85,.fld 7 (.t 13),(some (84,true)),[4]⟩,
⟨some 86,86,.load false 1 (.t 85),(some (84,true)),[5,4]⟩,
⟨some 87,87,.bin false .eql (.t 86) (.k (.c (.s (.pv (.int .i64 0))))),(some (84,true)),[6,4]⟩,
⟨some 88,88,.pick (.t 84) (.t 87) (.k (.c (.s (.pv (.bool false))))),none,[4,7]⟩,
⟨some 89,89,.mv (.t 88),none,[8,4]⟩,
⟨some 90,90,.fld 0 (.t 13),(some (89,true)),[9]⟩,
⟨some 91,91,.fld 3 (.t 90),(some (89,true)),[10,9]⟩,
⟨some 92,92,.load false 1 (.t 91),(some (89,true)),[11,9]⟩,
⟨some 93,93,.len (.t 92),(some (89,true)),[12,9]⟩,
⟨some 94,94,.mv (.t 9),(some (89,true)),[9]⟩,
⟨some 95,95,.bin false .eql (.t 93) (.t 94),(some (89,true)),[13,14,9]⟩,
⟨some 96,96,.pick (.t 89) (.t 95) (.k (.c (.s (.pv (.bool false))))),none,[9,15]⟩,
⟨none,114,.store 8 (.t 4) (.t 80),none,[0,9,0]⟩,
⟨none,115,.store 69 (.t 5) (.t 81),none,[1,17,0,1,17]⟩,
⟨some 6,6,.mv (.t 96),none,[16,18,0,1,2,3,4,5,6,7,8,9,10,11,12,13,14,15,16,17,18]⟩])
.ret)))))))
theorem fn17 : FnIs Tryz.prog 17 ac17 [.cell 4 true 8,.cell 5 true 69,.t 6] 97 := ⟨Tryz.f17,Tryz.func17,by kernel_rfl,by kernel_rfl,by kernel_rfl⟩
def ac18 : ACode := (.seq (.reg [⟨some 2,2,.box 40 8 (.t 0),none,[]⟩,
⟨some 3,3,.box 50 3 (.t 1),none,[]⟩,
⟨some 4,4,.mk 40 8 [[.zc,.s (.pv (.int .i64 0)),.zc,.zc,.zc,.zc,.zc,.s (.pv (.int .i64 0))]],none,[]⟩,
⟨some 5,5,.mk 42 3 [[.s (.pv (.int .i64 0)),.s (.pv (.int .i64 0)),.s (.pv (.string ⟨#[]⟩))]],none,[]⟩,
⟨some 6,6,.mv (.k (.c .zc)),none,[]⟩,
⟨some 7,7,.mv (.k (.c (.s (.pv (.int .i64 0))))),none,[4]⟩])
(.seq (.seq (.reg [⟨some 11,11,.fld 0 (.t 3),none,[]⟩,
⟨some 12,12,.load false 1 (.t 11),none,[0]⟩,
⟨some 13,13,.bin false .lss (.t 12) (.k (.c (.s (.pv (.int .i64 1))))),none,[1]⟩,
⟨some 14,14,.mv (.t 13),none,[2]⟩,
⟨some 15,15,.fld 0 (.t 3),(some (14,false)),[3]⟩,
⟨some 16,16,.load false 1 (.t 15),(some (14,false)),[4,3]⟩,
⟨some 17,17,.bin false .gtr (.t 16) (.k (.c (.s (.pv (.int .i64 8))))),(some (14,false)),[5,3]⟩,
⟨some 18,18,.pick (.t 14) (.k (.c (.s (.pv (.bool true))))) (.t 17),none,[3,6]⟩,
⟨some 19,19,.mv (.t 18),none,[7,3]⟩,
⟨some 20,20,.fld 0 (.t 3),(some (19,false)),[8]⟩,
⟨some 21,21,.load false 1 (.t 20),(some (19,false)),[9,8]⟩,
⟨some 22,22,.bin false .neq (.t 21) (.k (.c (.s (.pv (.int .i64 8))))),(some (19,false)),[10,8]⟩,
⟨some 23,23,.mv (.t 22),(some (19,false)),[11,8,8]⟩,
⟨some 24,24,.fld 1 (.t 3),(some (23,true)),[12]⟩,
⟨some 25,25,.load false 1 (.t 24),(some (23,true)),[13,12]⟩,
⟨some 26,26,.bin false .lss (.t 25) (.k (.c (.s (.pv (.int .i64 1))))),(some (23,true)),[14,12]⟩,
⟨some 27,27,.mv (.t 26),(some (23,true)),[15,12,12]⟩,
⟨some 28,28,.fld 1 (.t 3),(some (27,false)),[16]⟩,
⟨some 29,29,.load false 1 (.t 28),(some (27,false)),[17,16]⟩,
⟨some 30,30,.bin false .gtr (.t 29) (.k (.c (.s (.pv (.int .i64 16))))),(some (27,false)),[18,16]⟩,
⟨some 31,31,.pick (.t 27) (.k (.c (.s (.pv (.bool true))))) (.t 30),(some (23,true)),[16,19,12]⟩,
⟨some 32,32,.pick (.t 23) (.t 31) (.k (.c (.s (.pv (.bool false))))),(some (19,false)),[12,20,8]⟩,
⟨some 33,33,.pick (.t 19) (.k (.c (.s (.pv (.bool true))))) (.t 32),none,[8,21]⟩])
(.cond (.t 33) (.seq (.reg [⟨some 34,34,.load true 8 (.t 2),none,[]⟩,
⟨some 35,35,.build [.s (.pv (.int .i64 0)),.s (.pv (.int .i64 0)),.s (.pv (.string ⟨#[]⟩))] [],none,[]⟩,
⟨none,51,.store 8 (.t 4) (.t 34),none,[0,0]⟩,
⟨none,52,.store 3 (.t 5) (.t 35),none,[1,2,0,1,2]⟩,
⟨some 6,6,.mv (.k (.c .zc)),none,[3,0,1,2,3]⟩,
⟨some 7,7,.mv (.k (.c (.s (.pv (.int .i64 1))))),none,[4,0,1,2,3,4]⟩])
.ret) .skip))
(.seq (.reg [⟨some 36,36,.load true 8 (.t 2),none,[]⟩,
⟨some 37,37,.build [.zc,.s (.pv (.int .i64 0)),.zc,.zc,.zc,.zc,.zc,.s (.pv (.int .i64 0)),.zc] [(0,8,(.t 36))],none,[0]⟩,
⟨some 8,8,.mk 108 9 [[.zc,.s (.pv (.int .i64 0)),.zc,.zc,.zc,.zc,.zc,.s (.pv (.int .i64 0)),.zc]],none,[]⟩,
⟨none,52,.store 9 (.t 8) (.t 37),none,[2,1,0,1,2]⟩])
(.seq (.reg [⟨some 39,39,.load true 3 (.t 3),none,[]⟩,
⟨some 40,40,.call 41 [.t 8,.t 39],none,[0]⟩,
⟨some 38,38,.mv (.t 40),none,[1]⟩,
⟨some 41,41,.ext 0 (.t 38),none,[2]⟩,
⟨some 42,42,.ext 1 (.t 38),none,[2]⟩,
⟨some 9,9,.mk 42 3 [[.s (.pv (.int .i64 0)),.s (.pv (.int .i64 0)),.s (.pv (.string ⟨#[]⟩))]],none,[]⟩,
⟨none,55,.store 3 (.t 9) (.t 41),none,[5,3,1,0,1,2,3,5]⟩,
⟨some 10,10,.mv (.t 42),none,[4,6,0,1,2,3,4,5,6]⟩])
(.seq (.draw [⟨some 43,43,.fld 0 (.t 8),none,[]⟩,
⟨some 44,44,.load true 8 (.t 43),none,[0]⟩,
⟨some 45,45,.load true 3 (.t 9),none,[]⟩,
⟨some 46,46,.fld 8 (.t 8),none,[]⟩,
⟨some 47,47,.load false 1 (.t 46),none,[3]⟩,
⟨some 48,48,.mv (.t 10),none,[]⟩,
⟨none,55,.store 8 (.t 4) (.t 44),none,[1,0,1]⟩,
⟨none,56,.store 3 (.t 5) (.t 45),none,[2,6,0,1,2,6]⟩,
⟨some 6,6,.mv (.t 47),none,[4,7,0,1,2,3,4,6,7]⟩,
⟨some 7,7,.mv (.t 48),none,[5,8,0,1,2,3,4,5,6,7,8]⟩])
.ret)))))
theorem fn18 : FnIs Tryz.prog 18 ac18 [.cell 4 true 8,.cell 5 true 3,.t 6,.t 7] 49 := ⟨Tryz.f18,Tryz.func18,by kernel_rfl,by kernel_rfl,by kernel_rfl⟩
def ac19 : ACode := (.seq (.reg [⟨some 4,4,.box 46 69 (.t 0),none,[]⟩,
⟨some 8,8,.mk 46 69 [[.s (.pv (.int .i64 0)),.s (.pv (.int .i64 0)),.s (.pv (.string ⟨#[]⟩)),.s (.pv (.int .i64 0)),.s (.pv (.int .i64 0)),.s (.pv (.string ⟨#[]⟩)),.s (.pv (.int .i64 0)),.s (.pv (.int .i64 0)),.s (.pv (.string ⟨#[]⟩)),.s (.pv (.int .i64 0)),.s (.pv (.int .i64 0)),.s (.pv (.string ⟨#[]⟩)),.s (.pv (.int .i64 0)),.s (.pv (.int .i64 0)),.s (.pv (.string ⟨#[]⟩)),.s (.pv (.int .i64 0)),.s (.pv (.int .i64 0)),.s (.pv (.string ⟨#[]⟩)),.s (.pv (.int .i64 0)),.s (.pv (.int .i64 0)),.s (.pv (.string ⟨#[]⟩)),.s (.pv (.int .i64 0)),.s (.pv (.int .i64 0)),.s (.pv (.string ⟨#[]⟩)),.s (.pv (.int .i64 0)),.s (.pv (.int .i64 0)),.s (.pv (.string ⟨#[]⟩)),.s (.pv (.int .i64 0)),.s (.pv (.int .i64 0)),.s (.pv (.string ⟨#[]⟩)),.s (.pv (.int .i64 0)),.s (.pv (.int .i64 0)),.s (.pv (.string ⟨#[]⟩)),.s (.pv (.int .i64 0)),.s (.pv (.int .i64 0)),.s (.pv (.string ⟨#[]⟩)),.s (.pv (.int .i64 0)),.s (.pv (.int .i64 0)),.s (.pv (.string ⟨#[]⟩)),.s (.pv (.int .i64 0)),.s (.pv (.int .i64 0)),.s (.pv (.string ⟨#[]⟩)),.s (.pv (.int .i64 0)),.s (.pv (.int .i64 0)),.s (.pv (.string ⟨#[]⟩)),.s (.pv (.int .i64 0)),.s (.pv (.int .i64 0)),.s (.pv (.string ⟨#[]⟩)),.s (.pv (.int .i64 0)),.s (.pv (.int .i64 0)),.s (.pv (.string ⟨#[]⟩)),.s (.pv (.int .i64 0)),.s (.pv (.int .i64 0)),.s (.pv (.int .i64 0)),.s (.pv (.int .i64 0)),.s (.pv (.int .i64 0)),.s (.pv (.int .i64 0)),.s (.pv (.int .i64 0)),.s (.pv (.int .i64 0)),.s (.pv (.int .i64 0)),.s (.pv (.int .i64 0)),.s (.pv (.int .i64 0)),.s (.pv (.int .i64 0)),.s (.pv (.int .i64 0)),.s (.pv (.int .i64 0)),.s (.pv (.int .i64 0)),.s (.pv (.int .i64 0)),.s (.pv (.int .i64 0)),.s (.pv (.int .i64 0))]],none,[]⟩,
⟨some 9,9,.mk 42 3 [[.s (.pv (.int .i64 0)),.s (.pv (.int .i64 0)),.s (.pv (.string ⟨#[]⟩))]],none,[]⟩,
⟨some 10,10,.mv (.k (.c (.s (.pv (.int .i64 0))))),none,[]⟩])
(.seq (.seq (.reg [⟨some 12,12,.mv (.t 1),none,[]⟩,
⟨some 13,13,.bin false .lss (.t 12) (.k (.c (.s (.pv (.int .i64 1))))),none,[0]⟩,
⟨some 14,14,.mv (.t 13),none,[1]⟩,
⟨some 15,15,.mv (.t 1),(some (14,false)),[2]⟩,
⟨some 16,16,.bin false .gtr (.t 15) (.k (.c (.s (.pv (.int .i64 8))))),(some (14,false)),[3,2]⟩,
⟨some 17,17,.pick (.t 14) (.k (.c (.s (.pv (.bool true))))) (.t 16),none,[2,4]⟩,
⟨some 18,18,.mv (.t 17),none,[5,2]⟩,
⟨some 19,19,.mv (.t 1),(some (18,false)),[6]⟩,
⟨some 20,20,.bin false .neq (.t 19) (.k (.c (.s (.pv (.int .i64 8))))),(some (18,false)),[7,6]⟩,
⟨some 21,21,.mv (.t 20),(some (18,false)),[8,6,6]⟩,
⟨some 22,22,.mv (.t 2),(some (21,true)),[9]⟩,
⟨some 23,23,.bin false .lss (.t 22) (.k (.c (.s (.pv (.int .i64 1))))),(some (21,true)),[10,9]⟩,
⟨some 24,24,.mv (.t 23),(some (21,true)),[11,9,9]⟩,
⟨some 25,25,.mv (.t 2),(some (24,false)),[12]⟩,
⟨some 26,26,.bin false .gtr (.t 25) (.k (.c (.s (.pv (.int .i64 16))))),(some (24,false)),[13,12]⟩,
⟨some 27,27,.pick (.t 24) (.k (.c (.s (.pv (.bool true))))) (.t 26),(some (21,true)),[12,14,9]⟩,
⟨some 28,28,.pick (.t 21) (.t 27) (.k (.c (.s (.pv (.bool false))))),(some (18,false)),[9,15,6]⟩,
⟨some 29,29,.pick (.t 18) (.k (.c (.s (.pv (.bool true))))) (.t 28),none,[6,16]⟩])
(.cond (.t 29) (.seq (.reg [⟨some 30,30,.load true 69 (.t 4),none,[]⟩,
⟨some 31,31,.build [.s (.pv (.int .i64 0)),.s (.pv (.int .i64 0)),.s (.pv (.string ⟨#[]⟩))] [],none,[]⟩,
⟨none,128,.store 69 (.t 8) (.t 30),none,[0,0]⟩,
⟨none,129,.store 3 (.t 9) (.t 31),none,[1,2,0,1,2]⟩,
⟨some 10,10,.mv (.k (.c (.s (.pv (.int .i64 1))))),none,[3,0,1,2,3]⟩])
.ret) .skip))
(.seq (.seq (.reg [⟨some 32,32,.mv (.t 1),none,[]⟩,
⟨some 33,33,.bin false .eql (.t 32) (.k (.c (.s (.pv (.int .i64 8))))),none,[0]⟩])
(.cond (.t 33) (.seq (.reg [⟨some 34,34,.load true 69 (.t 4),none,[]⟩,
⟨some 35,35,.build [.s (.pv (.int .i64 0)),.s (.pv (.int .i64 0)),.s (.pv (.string ⟨#[]⟩))] [],none,[]⟩,
⟨none,128,.store 69 (.t 8) (.t 34),none,[0,0]⟩,
⟨none,129,.store 3 (.t 9) (.t 35),none,[1,2,0,1,2]⟩,
⟨some 10,10,.mv (.k (.c (.s (.pv (.int .i64 0))))),none,[3,0,1,2,3]⟩])
.ret) .skip))
(.seq (.reg [⟨some 36,36,.mv (.t 2),none,[]⟩,
⟨some 37,37,.fld 0 (.t 4),none,[]⟩,
⟨some 38,38,.aidx 17 3 (.t 37) (.t 36),none,[1,0]⟩,
⟨some 39,39,.load true 3 (.t 38),none,[2]⟩,
⟨some 11,11,.mk 42 3 [[.s (.pv (.int .i64 0)),.s (.pv (.int .i64 0)),.s (.pv (.string ⟨#[]⟩))]],none,[]⟩,
⟨none,131,.store 3 (.t 11) (.t 39),none,[4,3,0,1,2,3,4]⟩])
(.seq (.seq (.reg [⟨some 40,40,.mv (.t 1),none,[]⟩,
⟨some 41,41,.bin false .gtr (.t 40) (.k (.c (.s (.pv (.int .i64 2))))),none,[0]⟩,
⟨some 42,42,.mv (.t 41),none,[1]⟩,
⟨some 43,43,.mv (.t 1),(some (42,true)),[2]⟩,
⟨some 44,44,.bin false .lss (.t 43) (.k (.c (.s (.pv (.int .i64 6))))),(some (42,true)),[3,2]⟩,
⟨some 45,45,.pick (.t 42) (.t 44) (.k (.c (.s (.pv (.bool false))))),none,[2,4]⟩,
⟨some 46,46,.mv (.t 45),none,[5,2]⟩,
⟨some 47,47,.mv (.t 2),(some (46,true)),[6]⟩,
⟨some 48,48,.fld 51 (.t 4),(some (46,true)),[6]⟩,
⟨some 49,49,.aidx 17 1 (.t 48) (.t 47),(some (46,true)),[8,7,6]⟩,
⟨some 50,50,.load false 1 (.t 49),(some (46,true)),[9,6]⟩,
⟨some 51,51,.bin false .eql (.t 50) (.k (.c (.s (.pv (.int .i64 0))))),(some (46,true)),[10,6]⟩,
⟨some 52,52,.pick (.t 46) (.t 51) (.k (.c (.s (.pv (.bool false))))),none,[6,11]⟩])
(.cond (.t 52) (.seq (.reg [⟨some 53,53,.load true 69 (.t 4),none,[]⟩,
⟨some 54,54,.build [.s (.pv (.int .i64 0)),.s (.pv (.int .i64 0)),.s (.pv (.string ⟨#[]⟩))] [],none,[]⟩,
⟨none,128,.store 69 (.t 8) (.t 53),none,[0,0]⟩,
⟨none,129,.store 3 (.t 9) (.t 54),none,[1,2,0,1,2]⟩,
⟨some 10,10,.mv (.k (.c (.s (.pv (.int .i64 12))))),none,[3,0,1,2,3]⟩])
.ret) .skip))
(.seq (.seq (.reg [⟨some 55,55,.mv (.t 1),none,[]⟩])
(.block 0 (.seq (.reg [⟨some 57,57,.bin false .eql (.t 55) (.k (.c (.s (.pv (.int .i64 3))))),none,[]⟩,
⟨some 56,56,.mv (.t 57),none,[0]⟩])
(.cond (.t 56) (.seq (.draw [⟨some 58,58,.load true 69 (.t 4),none,[]⟩,
⟨some 59,59,.load true 3 (.t 11),none,[]⟩,
⟨none,128,.store 69 (.t 8) (.t 58),none,[0,0]⟩,
⟨none,129,.store 3 (.t 9) (.t 59),none,[1,2,0,1,2]⟩,
⟨some 10,10,.mv (.k (.c (.s (.pv (.int .i64 0))))),none,[3,0,1,2,3]⟩])
.ret) (.seq (.reg [⟨some 61,61,.bin false .eql (.t 55) (.k (.c (.s (.pv (.int .i64 4))))),none,[]⟩,
⟨some 60,60,.mv (.t 61),none,[0]⟩])
(.cond (.t 60) (.seq (.seq (.reg [⟨some 62,62,.mv (.t 3),none,[]⟩,
⟨some 63,63,.slen (.t 62),none,[0]⟩,
⟨some 64,64,.bin false .gtr (.t 63) (.k (.c (.s (.pv (.int .i64 16))))),none,[1]⟩])
(.cond (.t 64) (.seq (.reg [⟨some 65,65,.load true 69 (.t 4),none,[]⟩,
⟨some 66,66,.build [.s (.pv (.int .i64 0)),.s (.pv (.int .i64 0)),.s (.pv (.string ⟨#[]⟩))] [],none,[]⟩,
⟨none,128,.store 69 (.t 8) (.t 65),none,[0,0]⟩,
⟨none,129,.store 3 (.t 9) (.t 66),none,[1,2,0,1,2]⟩,
⟨some 10,10,.mv (.k (.c (.s (.pv (.int .i64 5))))),none,[3,0,1,2,3]⟩])
.ret) .skip))
(.seq (.reg [⟨some 67,67,.mv (.t 3),none,[]⟩,
⟨some 68,68,.fld 2 (.t 11),none,[0]⟩,
⟨none,128,.store 1 (.t 68) (.t 67),none,[1,0,0]⟩])
(.seq (.reg [⟨some 69,69,.fld 1 (.t 11),none,[]⟩,
⟨some 70,70,.load false 1 (.t 69),none,[0]⟩,
⟨some 71,71,.bin false .add (.t 70) (.k (.c (.s (.pv (.int .i64 1))))),none,[1]⟩,
⟨some 72,72,.fld 1 (.t 11),none,[0,1,2]⟩,
⟨none,130,.store 1 (.t 72) (.t 71),none,[3,2,0,1,2]⟩])
(.seq (.reg [⟨some 73,73,.mv (.t 2),none,[]⟩,
⟨some 74,74,.load true 3 (.t 11),none,[]⟩,
⟨some 75,75,.fld 0 (.t 4),none,[]⟩,
⟨some 76,76,.aidx 17 3 (.t 75) (.t 73),none,[2,0,0,1]⟩,
⟨none,130,.store 3 (.t 76) (.t 74),none,[3,1,0,1]⟩])
(.seq (.draw [⟨some 77,77,.load true 69 (.t 4),none,[]⟩,
⟨some 78,78,.load true 3 (.t 11),none,[]⟩,
⟨none,128,.store 69 (.t 8) (.t 77),none,[0,0]⟩,
⟨none,129,.store 3 (.t 9) (.t 78),none,[1,2,0,1,2]⟩,
⟨some 10,10,.mv (.k (.c (.s (.pv (.int .i64 0))))),none,[3,0,1,2,3]⟩])
.ret))))) (.seq (.reg [⟨some 80,80,.bin false .eql (.t 55) (.k (.c (.s (.pv (.int .i64 5))))),none,[]⟩,
⟨some 79,79,.mv (.t 80),none,[0]⟩])
(.cond (.t 79) (.seq (.reg [⟨some 81,81,.mv (.t 2),none,[]⟩,
⟨some 82,82,.fld 51 (.t 4),none,[]⟩,
⟨some 83,83,.aidx 17 1 (.t 82) (.t 81),none,[1,0]⟩,
⟨some 84,84,.load false 1 (.t 83),none,[2]⟩,
⟨some 85,85,.bin false .sub (.t 84) (.k (.c (.s (.pv (.int .i64 1))))),none,[3]⟩,
⟨some 86,86,.fld 51 (.t 4),none,[]⟩,
⟨some 87,87,.aidx 17 1 (.t 86) (.t 81),none,[5,0,0,1,2,3,4]⟩,
⟨none,133,.store 1 (.t 87) (.t 85),none,[6,4,0,1,2,3,4]⟩])
(.seq (.reg [⟨some 88,88,.load true 69 (.t 4),none,[]⟩,
⟨some 89,89,.build [.s (.pv (.int .i64 0)),.s (.pv (.int .i64 0)),.s (.pv (.string ⟨#[]⟩))] [],none,[]⟩,
⟨none,128,.store 69 (.t 8) (.t 88),none,[0,0]⟩,
⟨none,129,.store 3 (.t 9) (.t 89),none,[1,2,0,1,2]⟩,
⟨some 10,10,.mv (.k (.c (.s (.pv (.int .i64 0))))),none,[3,0,1,2,3]⟩])
.ret)) (.seq (.reg [⟨some 91,91,.bin false .eql (.t 55) (.k (.c (.s (.pv (.int .i64 6))))),none,[]⟩,
⟨some 90,90,.mv (.t 91),none,[0]⟩])
(.cond (.t 90) (.seq (.seq (.reg [⟨some 92,92,.mv (.t 2),none,[]⟩,
⟨some 93,93,.fld 51 (.t 4),none,[]⟩,
⟨some 94,94,.aidx 17 1 (.t 93) (.t 92),none,[1,0]⟩,
⟨some 95,95,.load false 1 (.t 94),none,[2]⟩,
⟨some 96,96,.bin false .gtr (.t 95) (.k (.c (.s (.pv (.int .i64 0))))),none,[3]⟩])
(.cond (.t 96) (.seq (.reg [⟨some 97,97,.load true 69 (.t 4),none,[]⟩,
⟨some 98,98,.build [.s (.pv (.int .i64 0)),.s (.pv (.int .i64 0)),.s (.pv (.string ⟨#[]⟩))] [],none,[]⟩,
⟨none,128,.store 69 (.t 8) (.t 97),none,[0,0]⟩,
⟨none,129,.store 3 (.t 9) (.t 98),none,[1,2,0,1,2]⟩,
⟨some 10,10,.mv (.k (.c (.s (.pv (.int .i64 6))))),none,[3,0,1,2,3]⟩])
.ret) .skip))
(.seq (.seq (.reg [⟨some 99,99,.fld 0 (.t 11),none,[]⟩,
⟨some 100,100,.load false 1 (.t 99),none,[0]⟩,
⟨some 101,101,.bin false .eql (.t 100) (.k (.c (.s (.pv (.int .i64 0))))),none,[1]⟩])
(.cond (.t 101) (.seq (.reg [⟨some 102,102,.load true 69 (.t 4),none,[]⟩,
⟨some 103,103,.build [.s (.pv (.int .i64 0)),.s (.pv (.int .i64 0)),.s (.pv (.string ⟨#[]⟩))] [],none,[]⟩,
⟨none,128,.store 69 (.t 8) (.t 102),none,[0,0]⟩,
⟨none,129,.store 3 (.t 9) (.t 103),none,[1,2,0,1,2]⟩,
⟨some 10,10,.mv (.k (.c (.s (.pv (.int .i64 3))))),none,[3,0,1,2,3]⟩])
.ret) .skip))
(.seq (.reg [⟨some 104,104,.mv (.t 2),none,[]⟩,
⟨some 105,105,.build [.s (.pv (.int .i64 0)),.s (.pv (.int .i64 0)),.s (.pv (.string ⟨#[]⟩))] [],none,[]⟩,
⟨some 106,106,.fld 0 (.t 4),none,[]⟩,
⟨some 107,107,.aidx 17 3 (.t 106) (.t 104),none,[2,0,0,1]⟩,
⟨none,130,.store 3 (.t 107) (.t 105),none,[3,1,0,1]⟩])
(.seq (.reg [⟨some 108,108,.load true 69 (.t 4),none,[]⟩,
⟨some 109,109,.build [.s (.pv (.int .i64 0)),.s (.pv (.int .i64 0)),.s (.pv (.string ⟨#[]⟩))] [],none,[]⟩,
⟨none,128,.store 69 (.t 8) (.t 108),none,[0,0]⟩,
⟨none,129,.store 3 (.t 9) (.t 109),none,[1,2,0,1,2]⟩,
⟨some 10,10,.mv (.k (.c (.s (.pv (.int .i64 0))))),none,[3,0,1,2,3]⟩])
.ret)))) (.seq (.reg [⟨some 111,111,.bin false .eql (.t 55) (.k (.c (.s (.pv (.int .i64 7))))),none,[]⟩,
⟨some 110,110,.mv (.t 111),none,[0]⟩])
(.cond (.t 110) (.seq (.seq (.reg [⟨some 112,112,.fld 0 (.t 11),none,[]⟩,
⟨some 113,113,.load false 1 (.t 112),none,[0]⟩,
⟨some 114,114,.bin false .eql (.t 113) (.k (.c (.s (.pv (.int .i64 0))))),none,[1]⟩])
(.cond (.t 114) (.seq (.reg [⟨some 115,115,.load true 69 (.t 4),none,[]⟩,
⟨some 116,116,.build [.s (.pv (.int .i64 0)),.s (.pv (.int .i64 0)),.s (.pv (.string ⟨#[]⟩))] [],none,[]⟩,
⟨none,128,.store 69 (.t 8) (.t 115),none,[0,0]⟩,
⟨none,129,.store 3 (.t 9) (.t 116),none,[1,2,0,1,2]⟩,
⟨some 10,10,.mv (.k (.c (.s (.pv (.int .i64 3))))),none,[3,0,1,2,3]⟩])
.ret) .skip))
(.seq (.reg [⟨some 117,117,.load true 69 (.t 4),none,[]⟩,
⟨some 118,118,.build [.s (.pv (.int .i64 0)),.s (.pv (.int .i64 0)),.s (.pv (.string ⟨#[]⟩))] [],none,[]⟩,
⟨none,128,.store 69 (.t 8) (.t 117),none,[0,0]⟩,
⟨none,129,.store 3 (.t 9) (.t 118),none,[1,2,0,1,2]⟩,
⟨some 10,10,.mv (.k (.c (.s (.pv (.int .i64 0))))),none,[3,0,1,2,3]⟩])
.ret)) .skip))))))))))))
(.seq (.reg [⟨some 119,119,.load true 69 (.t 4),none,[]⟩,
⟨some 120,120,.mv (.t 1),none,[]⟩,
⟨some 121,121,.mv (.t 2),none,[]⟩,
⟨some 122,122,.call 42 [.t 119,.t 120,.t 121],none,[0,1,2]⟩,
⟨some 123,123,.ext 0 (.t 122),none,[3]⟩,
⟨some 124,124,.ext 1 (.t 122),none,[3]⟩,
⟨some 125,125,.ext 2 (.t 122),none,[3]⟩,
⟨none,133,.store 69 (.t 8) (.t 123),none,[4,3,0,1,2,3,4,5,6]⟩,
⟨none,134,.store 3 (.t 9) (.t 124),none,[5,7,0,1,2,3,4,5,6,7]⟩,
⟨some 10,10,.mv (.t 125),none,[6,8,0,1,2,3,4,5,6,7,8]⟩])
.ret)))))))
theorem fn19 : FnIs Tryz.prog 19 ac19 [.cell 8 true 69,.cell 9 true 3,.t 10] 126 := ⟨Tryz.f19,Tryz.func19,by kernel_rfl,by kernel_rfl,by kernel_rfl⟩
def ac20 : ACode := (.seq (.reg [⟨some 2,2,.box 40 8 (.t 0),none,[]⟩,
⟨some 4,4,.mk 40 8 [[.zc,.s (.pv (.int .i64 0)),.zc,.zc,.zc,.zc,.zc,.s (.pv (.int .i64 0))]],none,[]⟩])
(.seq (.reg [⟨some 5,5,.fld 7 (.t 2),none,[]⟩,
⟨some 6,6,.load false 1 (.t 5),none,[0]⟩,
⟨some 7,7,.mv (.t 1),none,[]⟩,
⟨some 8,8,.mm true (.t 7) (.k (.c (.s (.pv (.int .i64 0))))),none,[2]⟩,
⟨some 9,9,.fld 7 (.t 2),none,[]⟩,
⟨some 10,10,.load false 1 (.t 9),none,[4]⟩,
⟨some 11,11,.bin false .sub (.k (.c (.s (.pv (.int .i64 2147483647))))) (.t 10),none,[5]⟩,
⟨some 12,12,.mm false (.t 8) (.t 11),none,[3,6]⟩,
⟨some 13,13,.bin false .add (.t 6) (.t 12),none,[1,7]⟩,
⟨some 14,14,.fld 7 (.t 2),none,[0,1,2,3,4,5,6,7,8]⟩,
⟨none,26,.store 1 (.t 14) (.t 13),none,[9,8,0,1,2,3,4,5,6,7,8]⟩])
(.seq (.reg [⟨some 15,15,.load true 8 (.t 2),none,[]⟩,
⟨none,17,.store 8 (.t 4) (.t 15),none,[0,0]⟩])
.ret)))
theorem fn20 : FnIs Tryz.prog 20 ac20 [.cell 4 true 8] 16 := ⟨Tryz.f20,Tryz.func20,by kernel_rfl,by kernel_rfl,by kernel_rfl⟩
def ac25 : ACode := (.seq (.reg [⟨some 2,2,.box 38 2 (.t 0),none,[]⟩,
⟨some 4,4,.mk 40 8 [[.zc,.s (.pv (.int .i64 0)),.zc,.zc,.zc,.zc,.zc,.s (.pv (.int .i64 0))]],none,[]⟩,
⟨some 5,5,.mv (.k (.c (.s (.pv (.int .i64 0))))),none,[]⟩])
(.seq (.seq (.reg [⟨some 11,11,.load true 2 (.t 2),none,[]⟩,
⟨some 12,12,.call 53 [.t 11,.k (.c (.s (.pv (.int .i64 1))))],none,[0]⟩,
⟨some 10,10,.mv (.t 12),none,[1]⟩,
⟨some 13,13,.ext 0 (.t 10),none,[2]⟩,
⟨some 14,14,.ext 1 (.t 10),none,[2]⟩,
⟨some 6,6,.mv (.t 13),none,[3,1,0,1,2,3]⟩,
⟨some 7,7,.mv (.t 14),none,[4,5,0,1,2,3,4,5]⟩])
(.seq (.reg [⟨some 15,15,.mv (.t 7),none,[]⟩,
⟨some 16,16,.bin false .neq (.t 15) (.k (.c (.s (.pv (.int .i64 0))))),none,[0]⟩,
⟨some 17,17,.mv (.t 16),none,[1]⟩,
⟨some 18,18,.fld 1 (.t 2),(some (17,false)),[2]⟩,
⟨some 19,19,.load false 1 (.t 18),(some (17,false)),[3,2]⟩,
⟨some 20,20,.len (.t 19),(some (17,false)),[4,2]⟩,
⟨some 21,21,.bin false .gtr (.t 20) (.k (.c (.s (.pv (.int .i64 0))))),(some (17,false)),[5,2]⟩,
⟨some 22,22,.pick (.t 17) (.k (.c (.s (.pv (.bool true))))) (.t 21),none,[2,6]⟩])
(.cond (.t 22) (.seq (.reg [⟨some 23,23,.build [.zc,.s (.pv (.int .i64 0)),.zc,.zc,.zc,.zc,.zc,.s (.pv (.int .i64 0))] [],none,[]⟩,
⟨none,38,.store 8 (.t 4) (.t 23),none,[0,0]⟩,
⟨some 5,5,.mv (.k (.c (.s (.pv (.int .i64 1))))),none,[1,0,1]⟩])
.ret) .skip)))
(.seq (.reg [⟨some 25,25,.mv (.t 1),none,[]⟩,
⟨some 26,26,.call 54 [.t 25],none,[0]⟩,
⟨some 24,24,.mv (.t 26),none,[1]⟩,
⟨some 27,27,.ext 0 (.t 24),none,[2]⟩,
⟨some 28,28,.ext 1 (.t 24),none,[2]⟩,
⟨some 8,8,.mk 34 5 [[.zc,.s (.pv (.int .i64 0)),.zc,.zc,.zc]],none,[]⟩,
⟨none,43,.store 5 (.t 8) (.t 27),none,[5,3,1,0,1,2,3,5]⟩,
⟨some 9,9,.mv (.t 28),none,[4,6,0,1,2,3,4,5,6]⟩])
(.seq (.seq (.reg [⟨some 29,29,.mv (.t 9),none,[]⟩,
⟨some 30,30,.bin false .neq (.t 29) (.k (.c (.s (.pv (.int .i64 0))))),none,[0]⟩])
(.cond (.t 30) (.seq (.reg [⟨some 31,31,.build [.zc,.s (.pv (.int .i64 0)),.zc,.zc,.zc,.zc,.zc,.s (.pv (.int .i64 0))] [],none,[]⟩,
⟨some 32,32,.mv (.t 9),none,[]⟩,
⟨none,39,.store 8 (.t 4) (.t 31),none,[0,0]⟩,
⟨some 5,5,.mv (.t 32),none,[1,2,0,1,2]⟩])
.ret) .skip))
(.seq (.draw [⟨some 33,33,.load true 5 (.t 8),none,[]⟩,
⟨some 34,34,.load true 2 (.t 2),none,[]⟩,
⟨some 35,35,.call 55 [.t 34],none,[1]⟩,
⟨some 36,36,.build [.zc,.s (.pv (.int .i64 0)),.zc,.zc,.zc,.zc,.zc,.s (.pv (.int .i64 0))] [(0,5,(.t 33)),(5,2,(.t 35))],none,[0,2]⟩,
⟨none,41,.store 8 (.t 4) (.t 36),none,[3,2,0,1,2,3]⟩,
⟨some 5,5,.mv (.k (.c (.s (.pv (.int .i64 0))))),none,[4,0,1,2,3,4]⟩])
.ret)))))
theorem fn25 : FnIs Tryz.prog 25 ac25 [.cell 4 true 8,.t 5] 37 := ⟨Tryz.f25,Tryz.func25,by kernel_rfl,by kernel_rfl,by kernel_rfl⟩
def ac41 : ACode := (.seq (.reg [⟨some 3,3,.box 50 3 (.t 1),none,[]⟩,
⟨some 4,4,.mk 42 3 [[.s (.pv (.int .i64 0)),.s (.pv (.int .i64 0)),.s (.pv (.string ⟨#[]⟩))]],none,[]⟩,
⟨some 5,5,.mv (.k (.c (.s (.pv (.int .i64 0))))),none,[]⟩])
(.seq (.seq (.reg [⟨some 6,6,.fld 0 (.t 3),none,[]⟩,
⟨some 7,7,.load false 1 (.t 6),none,[0]⟩])
(.block 0 (.seq (.reg [⟨some 9,9,.bin false .eql (.t 7) (.k (.c (.s (.pv (.int .i64 1))))),none,[]⟩,
⟨some 8,8,.mv (.t 9),none,[0]⟩])
(.cond (.t 8) (.seq (.reg [⟨some 10,10,.mv (.t 0),none,[]⟩,
⟨some 11,11,.fld 1 (.t 3),none,[]⟩,
⟨some 12,12,.load false 1 (.t 11),none,[1]⟩,
⟨some 13,13,.call 73 [.t 10,.t 12],none,[0,2]⟩,
⟨some 14,14,.ext 0 (.t 13),none,[3]⟩,
⟨some 15,15,.ext 1 (.t 13),none,[3]⟩,
⟨none,74,.store 3 (.t 4) (.t 14),none,[4,3,0,1,2,3,4,5]⟩,
⟨some 5,5,.mv (.t 15),none,[5,6,0,1,2,3,4,5,6]⟩])
.ret) (.seq (.reg [⟨some 17,17,.bin false .eql (.t 7) (.k (.c (.s (.pv (.int .i64 2))))),none,[]⟩,
⟨some 16,16,.mv (.t 17),none,[0]⟩])
(.cond (.t 16) (.seq (.reg [⟨some 18,18,.mv (.t 0),none,[]⟩,
⟨some 19,19,.fld 1 (.t 3),none,[]⟩,
⟨some 20,20,.load false 1 (.t 19),none,[1]⟩,
⟨some 21,21,.call 74 [.t 18,.t 20],none,[0,2]⟩,
⟨some 22,22,.ext 0 (.t 21),none,[3]⟩,
⟨some 23,23,.ext 1 (.t 21),none,[3]⟩,
⟨none,74,.store 3 (.t 4) (.t 22),none,[4,3,0,1,2,3,4,5]⟩,
⟨some 5,5,.mv (.t 23),none,[5,6,0,1,2,3,4,5,6]⟩])
.ret) (.seq (.reg [⟨some 25,25,.bin false .eql (.t 7) (.k (.c (.s (.pv (.int .i64 3))))),none,[]⟩,
⟨some 24,24,.mv (.t 25),none,[0]⟩])
(.cond (.t 24) (.seq (.reg [⟨some 26,26,.mv (.t 0),none,[]⟩,
⟨some 27,27,.fld 1 (.t 3),none,[]⟩,
⟨some 28,28,.load false 1 (.t 27),none,[1]⟩,
⟨some 29,29,.call 75 [.t 26,.t 28],none,[0,2]⟩,
⟨some 30,30,.ext 0 (.t 29),none,[3]⟩,
⟨some 31,31,.ext 1 (.t 29),none,[3]⟩,
⟨none,74,.store 3 (.t 4) (.t 30),none,[4,3,0,1,2,3,4,5]⟩,
⟨some 5,5,.mv (.t 31),none,[5,6,0,1,2,3,4,5,6]⟩])
.ret) (.seq (.reg [⟨some 33,33,.bin false .eql (.t 7) (.k (.c (.s (.pv (.int .i64 4))))),none,[]⟩,
⟨some 32,32,.mv (.t 33),none,[0]⟩])
(.cond (.t 32) (.seq (.reg [⟨some 34,34,.mv (.t 0),none,[]⟩,
⟨some 35,35,.fld 1 (.t 3),none,[]⟩,
⟨some 36,36,.load false 1 (.t 35),none,[1]⟩,
⟨some 37,37,.fld 2 (.t 3),none,[]⟩,
⟨some 38,38,.load false 1 (.t 37),none,[3]⟩,
⟨some 39,39,.call 76 [.t 34,.t 36,.t 38],none,[0,2,4]⟩,
⟨some 40,40,.ext 0 (.t 39),none,[5]⟩,
⟨some 41,41,.ext 1 (.t 39),none,[5]⟩,
⟨none,76,.store 3 (.t 4) (.t 40),none,[6,5,0,1,2,3,4,5,6,7]⟩,
⟨some 5,5,.mv (.t 41),none,[7,8,0,1,2,3,4,5,6,7,8]⟩])
.ret) (.seq (.reg [⟨some 43,43,.bin false .eql (.t 7) (.k (.c (.s (.pv (.int .i64 5))))),none,[]⟩,
⟨some 42,42,.mv (.t 43),none,[0]⟩])
(.cond (.t 42) (.seq (.reg [⟨some 44,44,.build [.s (.pv (.int .i64 0)),.s (.pv (.int .i64 0)),.s (.pv (.string ⟨#[]⟩))] [],none,[]⟩,
⟨some 45,45,.mv (.t 0),none,[]⟩,
⟨some 46,46,.fld 1 (.t 3),none,[]⟩,
⟨some 47,47,.load false 1 (.t 46),none,[2]⟩,
⟨some 48,48,.call 77 [.t 45,.t 47],none,[1,3]⟩,
⟨none,73,.store 3 (.t 4) (.t 44),none,[0,4,0]⟩,
⟨some 5,5,.mv (.t 48),none,[4,5,0,1,2,3,4,5]⟩])
.ret) (.seq (.reg [⟨some 50,50,.bin false .eql (.t 7) (.k (.c (.s (.pv (.int .i64 6))))),none,[]⟩,
⟨some 49,49,.mv (.t 50),none,[0]⟩])
(.cond (.t 49) (.seq (.reg [⟨some 51,51,.build [.s (.pv (.int .i64 0)),.s (.pv (.int .i64 0)),.s (.pv (.string ⟨#[]⟩))] [],none,[]⟩,
⟨some 52,52,.mv (.t 0),none,[]⟩,
⟨some 53,53,.fld 1 (.t 3),none,[]⟩,
⟨some 54,54,.load false 1 (.t 53),none,[2]⟩,
⟨some 55,55,.call 78 [.t 52,.t 54],none,[1,3]⟩,
⟨none,73,.store 3 (.t 4) (.t 51),none,[0,4,0]⟩,
⟨some 5,5,.mv (.t 55),none,[4,5,0,1,2,3,4,5]⟩])
.ret) (.seq (.reg [⟨some 57,57,.bin false .eql (.t 7) (.k (.c (.s (.pv (.int .i64 7))))),none,[]⟩,
⟨some 56,56,.mv (.t 57),none,[0]⟩])
(.cond (.t 56) (.seq (.reg [⟨some 58,58,.build [.s (.pv (.int .i64 0)),.s (.pv (.int .i64 0)),.s (.pv (.string ⟨#[]⟩))] [],none,[]⟩,
⟨some 59,59,.mv (.t 0),none,[]⟩,
⟨some 60,60,.fld 1 (.t 3),none,[]⟩,
⟨some 61,61,.load false 1 (.t 60),none,[2]⟩,
⟨some 62,62,.call 79 [.t 59,.t 61],none,[1,3]⟩,
⟨none,73,.store 3 (.t 4) (.t 58),none,[0,4,0]⟩,
⟨some 5,5,.mv (.t 62),none,[4,5,0,1,2,3,4,5]⟩])
.ret) .skip))))))))))))))))
(.seq (.reg [⟨some 63,63,.mv (.t 0),none,[]⟩,
⟨some 64,64,.fld 1 (.t 3),none,[]⟩,
⟨some 65,65,.load false 1 (.t 64),none,[1]⟩,
⟨some 66,66,.call 80 [.t 63,.t 65],none,[0,2]⟩])
(.seq (.reg [⟨some 67,67,.build [.s (.pv (.int .i64 0)),.s (.pv (.int .i64 0)),.s (.pv (.string ⟨#[]⟩))] [],none,[]⟩,
⟨none,69,.store 3 (.t 4) (.t 67),none,[0,0]⟩,
⟨some 5,5,.mv (.k (.c (.s (.pv (.int .i64 0))))),none,[1,0,1]⟩])
.ret))))
theorem fn41 : FnIs Tryz.prog 41 ac41 [.cell 4 true 3,.t 5] 68 := ⟨Tryz.f41,Tryz.func41,by kernel_rfl,by kernel_rfl,by kernel_rfl⟩
def ac42 : ACode := (.seq (.reg [⟨some 3,3,.box 46 69 (.t 0),none,[]⟩,
⟨some 6,6,.mk 46 69 [[.s (.pv (.int .i64 0)),.s (.pv (.int .i64 0)),.s (.pv (.string ⟨#[]⟩)),.s (.pv (.int .i64 0)),.s (.pv (.int .i64 0)),.s (.pv (.string ⟨#[]⟩)),.s (.pv (.int .i64 0)),.s (.pv (.int .i64 0)),.s (.pv (.string ⟨#[]⟩)),.s (.pv (.int .i64 0)),.s (.pv (.int .i64 0)),.s (.pv (.string ⟨#[]⟩)),.s (.pv (.int .i64 0)),.s (.pv (.int .i64 0)),.s (.pv (.string ⟨#[]⟩)),.s (.pv (.int .i64 0)),.s (.pv (.int .i64 0)),.s (.pv (.string ⟨#[]⟩)),.s (.pv (.int .i64 0)),.s (.pv (.int .i64 0)),.s (.pv (.string ⟨#[]⟩)),.s (.pv (.int .i64 0)),.s (.pv (.int .i64 0)),.s (.pv (.string ⟨#[]⟩)),.s (.pv (.int .i64 0)),.s (.pv (.int .i64 0)),.s (.pv (.string ⟨#[]⟩)),.s (.pv (.int .i64 0)),.s (.pv (.int .i64 0)),.s (.pv (.string ⟨#[]⟩)),.s (.pv (.int .i64 0)),.s (.pv (.int .i64 0)),.s (.pv (.string ⟨#[]⟩)),.s (.pv (.int .i64 0)),.s (.pv (.int .i64 0)),.s (.pv (.string ⟨#[]⟩)),.s (.pv (.int .i64 0)),.s (.pv (.int .i64 0)),.s (.pv (.string ⟨#[]⟩)),.s (.pv (.int .i64 0)),.s (.pv (.int .i64 0)),.s (.pv (.string ⟨#[]⟩)),.s (.pv (.int .i64 0)),.s (.pv (.int .i64 0)),.s (.pv (.string ⟨#[]⟩)),.s (.pv (.int .i64 0)),.s (.pv (.int .i64 0)),.s (.pv (.string ⟨#[]⟩)),.s (.pv (.int .i64 0)),.s (.pv (.int .i64 0)),.s (.pv (.string ⟨#[]⟩)),.s (.pv (.int .i64 0)),.s (.pv (.int .i64 0)),.s (.pv (.int .i64 0)),.s (.pv (.int .i64 0)),.s (.pv (.int .i64 0)),.s (.pv (.int .i64 0)),.s (.pv (.int .i64 0)),.s (.pv (.int .i64 0)),.s (.pv (.int .i64 0)),.s (.pv (.int .i64 0)),.s (.pv (.int .i64 0)),.s (.pv (.int .i64 0)),.s (.pv (.int .i64 0)),.s (.pv (.int .i64 0)),.s (.pv (.int .i64 0)),.s (.pv (.int .i64 0)),.s (.pv (.int .i64 0)),.s (.pv (.int .i64 0))]],none,[]⟩,
⟨some 7,7,.mk 42 3 [[.s (.pv (.int .i64 0)),.s (.pv (.int .i64 0)),.s (.pv (.string ⟨#[]⟩))]],none,[]⟩,
⟨some 8,8,.mv (.k (.c (.s (.pv (.int .i64 0))))),none,[]⟩])
(.seq (.reg [⟨some 10,10,.mv (.t 2),none,[]⟩,
⟨some 11,11,.fld 0 (.t 3),none,[]⟩,
⟨some 12,12,.aidx 17 3 (.t 11) (.t 10),none,[1,0]⟩,
⟨some 13,13,.load true 3 (.t 12),none,[2]⟩,
⟨some 9,9,.mk 42 3 [[.s (.pv (.int .i64 0)),.s (.pv (.int .i64 0)),.s (.pv (.string ⟨#[]⟩))]],none,[]⟩,
⟨none,59,.store 3 (.t 9) (.t 13),none,[4,3,0,1,2,3,4]⟩])
(.seq (.seq (.reg [⟨some 14,14,.mv (.t 1),none,[]⟩,
⟨some 15,15,.bin false .eql (.t 14) (.k (.c (.s (.pv (.int .i64 1))))),none,[0]⟩,
⟨some 16,16,.mv (.t 15),none,[1]⟩,
⟨some 17,17,.fld 0 (.t 9),(some (16,true)),[2]⟩,
⟨some 18,18,.load false 1 (.t 17),(some (16,true)),[3,2]⟩,
⟨some 19,19,.bin false .eql (.t 18) (.k (.c (.s (.pv (.int .i64 0))))),(some (16,true)),[4,2]⟩,
⟨some 20,20,.pick (.t 16) (.t 19) (.k (.c (.s (.pv (.bool false))))),none,[2,5]⟩])
(.cond (.t 20) (.seq (.reg [⟨some 21,21,.load true 69 (.t 3),none,[]⟩,
⟨some 22,22,.build [.s (.pv (.int .i64 0)),.s (.pv (.int .i64 0)),.s (.pv (.string ⟨#[]⟩))] [],none,[]⟩,
⟨none,56,.store 69 (.t 6) (.t 21),none,[0,0]⟩,
⟨none,57,.store 3 (.t 7) (.t 22),none,[1,2,0,1,2]⟩,
⟨some 8,8,.mv (.k (.c (.s (.pv (.int .i64 3))))),none,[3,0,1,2,3]⟩])
.ret) .skip))
(.seq (.seq (.reg [⟨some 23,23,.mv (.t 1),none,[]⟩,
⟨some 24,24,.bin false .eql (.t 23) (.k (.c (.s (.pv (.int .i64 2))))),none,[0]⟩,
⟨some 25,25,.mv (.t 24),none,[1]⟩,
⟨some 26,26,.fld 0 (.t 9),(some (25,true)),[2]⟩,
⟨some 27,27,.load false 1 (.t 26),(some (25,true)),[3,2]⟩,
⟨some 28,28,.bin false .neq (.t 27) (.k (.c (.s (.pv (.int .i64 0))))),(some (25,true)),[4,2]⟩,
⟨some 29,29,.pick (.t 25) (.t 28) (.k (.c (.s (.pv (.bool false))))),none,[2,5]⟩])
(.cond (.t 29) (.seq (.reg [⟨some 30,30,.load true 69 (.t 3),none,[]⟩,
⟨some 31,31,.build [.s (.pv (.int .i64 0)),.s (.pv (.int .i64 0)),.s (.pv (.string ⟨#[]⟩))] [],none,[]⟩,
⟨none,56,.store 69 (.t 6) (.t 30),none,[0,0]⟩,
⟨none,57,.store 3 (.t 7) (.t 31),none,[1,2,0,1,2]⟩,
⟨some 8,8,.mv (.k (.c (.s (.pv (.int .i64 4))))),none,[3,0,1,2,3]⟩])
.ret) .skip))
(.seq (.seq (.reg [⟨some 32,32,.load true 69 (.t 3),none,[]⟩,
⟨some 33,33,.mv (.t 2),none,[]⟩,
⟨some 34,34,.call 81 [.t 32,.t 33],none,[0,1]⟩])
(.cond (.t 34) (.seq (.reg [⟨some 35,35,.load true 69 (.t 3),none,[]⟩,
⟨some 36,36,.build [.s (.pv (.int .i64 0)),.s (.pv (.int .i64 0)),.s (.pv (.string ⟨#[]⟩))] [],none,[]⟩,
⟨none,56,.store 69 (.t 6) (.t 35),none,[0,0]⟩,
⟨none,57,.store 3 (.t 7) (.t 36),none,[1,2,0,1,2]⟩,
⟨some 8,8,.mv (.k (.c (.s (.pv (.int .i64 6))))),none,[3,0,1,2,3]⟩])
.ret) .skip))
(.seq (.seq (.reg [⟨some 37,37,.mv (.t 1),none,[]⟩,
⟨some 38,38,.bin false .eql (.t 37) (.k (.c (.s (.pv (.int .i64 2))))),none,[0]⟩])
(.cond (.t 38) (.reg [⟨some 39,39,.mv (.t 2),none,[]⟩,
⟨some 40,40,.build [.s (.pv (.int .i64 0)),.s (.pv (.int .i64 0)),.s (.pv (.string ⟨#[]⟩))] [(0,1,(.t 39)),(1,1,(.k (.c (.s (.pv (.int .i64 1))))))],none,[0]⟩,
⟨none,56,.store 3 (.t 9) (.t 40),none,[1,0,1]⟩]) .skip))
(.seq (.reg [⟨some 41,41,.mv (.t 2),none,[]⟩,
⟨some 42,42,.load true 3 (.t 9),none,[]⟩,
⟨some 43,43,.fld 0 (.t 3),none,[]⟩,
⟨some 44,44,.aidx 17 3 (.t 43) (.t 41),none,[2,0,0,1]⟩,
⟨none,58,.store 3 (.t 44) (.t 42),none,[3,1,0,1]⟩])
(.seq (.reg [⟨some 45,45,.mv (.t 2),none,[]⟩,
⟨some 46,46,.fld 51 (.t 3),none,[]⟩,
⟨some 47,47,.aidx 17 1 (.t 46) (.t 45),none,[1,0]⟩,
⟨some 48,48,.load false 1 (.t 47),none,[2]⟩,
⟨some 49,49,.bin false .add (.t 48) (.k (.c (.s (.pv (.int .i64 1))))),none,[3]⟩,
⟨some 50,50,.fld 51 (.t 3),none,[]⟩,
⟨some 51,51,.aidx 17 1 (.t 50) (.t 45),none,[5,0,0,1,2,3,4]⟩,
⟨none,61,.store 1 (.t 51) (.t 49),none,[6,4,0,1,2,3,4]⟩])
(.seq (.draw [⟨some 52,52,.load true 69 (.t 3),none,[]⟩,
⟨some 53,53,.load true 3 (.t 9),none,[]⟩,
⟨none,56,.store 69 (.t 6) (.t 52),none,[0,0]⟩,
⟨none,57,.store 3 (.t 7) (.t 53),none,[1,2,0,1,2]⟩,
⟨some 8,8,.mv (.k (.c (.s (.pv (.int .i64 0))))),none,[3,0,1,2,3]⟩])
.ret)))))))))
theorem fn42 : FnIs Tryz.prog 42 ac42 [.cell 6 true 69,.cell 7 true 3,.t 8] 54 := ⟨Tryz.f42,Tryz.func42,by kernel_rfl,by kernel_rfl,by kernel_rfl⟩
def ac73 : ACode := (.seq (.reg [⟨some 4,4,.mk 42 3 [[.s (.pv (.int .i64 0)),.s (.pv (.int .i64 0)),.s (.pv (.string ⟨#[]⟩))]],none,[]⟩,
⟨some 5,5,.mv (.k (.c (.s (.pv (.int .i64 0))))),none,[]⟩])
(.seq (.reg [⟨some 12,12,.mv (.t 0),none,[]⟩,
⟨some 13,13,.mv (.t 1),none,[]⟩,
⟨some 14,14,.call 113 [.t 12,.t 13],none,[0,1]⟩,
⟨some 11,11,.mv (.t 14),none,[2]⟩,
⟨some 15,15,.ext 0 (.t 11),none,[3]⟩,
⟨some 16,16,.ext 1 (.t 11),none,[3]⟩,
⟨some 17,17,.ext 2 (.t 11),none,[3]⟩,
⟨some 6,6,.mk 42 3 [[.s (.pv (.int .i64 0)),.s (.pv (.int .i64 0)),.s (.pv (.string ⟨#[]⟩))]],none,[]⟩,
⟨none,62,.store 3 (.t 6) (.t 15),none,[7,4,2,0,1,2,3,4,7]⟩,
⟨some 7,7,.mv (.t 16),none,[5,8,0,1,2,3,4,5,7,8]⟩,
⟨some 8,8,.mv (.t 17),none,[6,9,0,1,2,3,4,5,6,7,8,9]⟩])
(.seq (.seq (.reg [⟨some 18,18,.mv (.t 8),none,[]⟩])
(.cond (.t 18) (.seq (.seq (.reg [⟨some 19,19,.mv (.t 0),none,[]⟩,
⟨some 20,20,.mv (.t 0),none,[]⟩,
⟨some 21,21,.nilc (.t 20),none,[1]⟩,
⟨some 22,22,.fld 0 (.t 21),none,[2]⟩,
⟨some 23,23,.fld 0 (.t 22),none,[3]⟩,
⟨some 24,24,.load true 5 (.t 23),none,[4]⟩,
⟨some 25,25,.mv (.t 1),none,[]⟩,
⟨some 26,26,.call 115 [.t 24,.t 25],none,[5,6]⟩,
⟨some 27,27,.ext 0 (.t 26),none,[7]⟩,
⟨some 28,28,.ext 1 (.t 26),none,[7]⟩,
⟨some 29,29,.call 114 [.t 19,.t 27,.t 28],none,[0,8,9,7]⟩,
⟨some 9,9,.mv (.t 29),none,[10,10,0,1,2,3,4,5,6,7,8,9,10]⟩])
(.seq (.reg [⟨some 30,30,.mv (.t 9),none,[]⟩,
⟨some 31,31,.bin false .neq (.t 30) (.k (.c (.s (.pv (.int .i64 0))))),none,[0]⟩])
(.cond (.t 31) (.seq (.reg [⟨some 32,32,.build [.s (.pv (.int .i64 0)),.s (.pv (.int .i64 0)),.s (.pv (.string ⟨#[]⟩))] [],none,[]⟩,
⟨some 33,33,.mv (.t 9),none,[]⟩,
⟨none,56,.store 3 (.t 4) (.t 32),none,[0,0]⟩,
⟨some 5,5,.mv (.t 33),none,[1,2,0,1,2]⟩])
.ret) .skip)))
(.seq (.reg [⟨some 34,34,.load true 3 (.t 6),none,[]⟩,
⟨none,55,.store 3 (.t 4) (.t 34),none,[0,0]⟩,
⟨some 5,5,.mv (.k (.c (.s (.pv (.int .i64 0))))),none,[1,0,1]⟩])
.ret)) .skip))
(.seq (.reg [⟨some 36,36,.mv (.t 0),none,[]⟩,
⟨some 37,37,.nilc (.t 36),none,[0]⟩,
⟨some 38,38,.fld 0 (.t 37),none,[1]⟩,
⟨some 39,39,.fld 5 (.t 38),none,[2]⟩,
⟨some 40,40,.load true 2 (.t 39),none,[3]⟩,
⟨some 41,41,.mv (.t 1),none,[]⟩,
⟨some 42,42,.call 116 [.t 40,.t 41],none,[4,5]⟩,
⟨some 35,35,.mv (.t 42),none,[6]⟩,
⟨some 43,43,.ext 0 (.t 35),none,[7]⟩,
⟨some 44,44,.ext 1 (.t 35),none,[7]⟩,
⟨none,64,.store 3 (.t 6) (.t 43),none,[8,6,0,1,2,3,4,5,6,7,8]⟩,
⟨some 10,10,.mv (.t 44),none,[9,10,0,1,2,3,4,5,6,7,8,9,10]⟩])
(.seq (.seq (.reg [⟨some 45,45,.mv (.t 10),none,[]⟩,
⟨some 46,46,.bin false .neq (.t 45) (.k (.c (.s (.pv (.int .i64 0))))),none,[0]⟩])
(.cond (.t 46) (.seq (.reg [⟨some 47,47,.build [.s (.pv (.int .i64 0)),.s (.pv (.int .i64 0)),.s (.pv (.string ⟨#[]⟩))] [],none,[]⟩,
⟨some 48,48,.mv (.t 10),none,[]⟩,
⟨none,56,.store 3 (.t 4) (.t 47),none,[0,0]⟩,
⟨some 5,5,.mv (.t 48),none,[1,2,0,1,2]⟩])
.ret) .skip))
(.seq (.reg [⟨some 49,49,.mv (.t 0),none,[]⟩,
⟨some 50,50,.load true 3 (.t 6),none,[]⟩,
⟨some 51,51,.call 117 [.t 49,.t 50,.k (.c (.s (.pv (.bool false))))],none,[0,1]⟩,
⟨some 52,52,.ext 0 (.t 51),none,[2]⟩,
⟨some 53,53,.ext 1 (.t 51),none,[2]⟩,
⟨none,59,.store 3 (.t 4) (.t 52),none,[3,2,0,1,2,3,4]⟩,
⟨some 5,5,.mv (.t 53),none,[4,5,0,1,2,3,4,5]⟩])
.ret))))))
theorem fn73 : FnIs Tryz.prog 73 ac73 [.cell 4 true 3,.t 5] 54 := ⟨Tryz.f73,Tryz.func73,by kernel_rfl,by kernel_rfl,by kernel_rfl⟩
def ac74 : ACode := (.seq (.reg [⟨some 4,4,.mk 42 3 [[.s (.pv (.int .i64 0)),.s (.pv (.int .i64 0)),.s (.pv (.string ⟨#[]⟩))]],none,[]⟩,
⟨some 5,5,.mv (.k (.c (.s (.pv (.int .i64 0))))),none,[]⟩])
(.seq (.seq (.reg [⟨some 12,12,.mv (.t 0),none,[]⟩,
⟨some 13,13,.mv (.t 1),none,[]⟩,
⟨some 14,14,.call 113 [.t 12,.t 13],none,[0,1]⟩,
⟨some 11,11,.mv (.t 14),none,[2]⟩,
⟨some 15,15,.ext 0 (.t 11),none,[3]⟩,
⟨some 16,16,.ext 1 (.t 11),none,[3]⟩,
⟨some 17,17,.ext 2 (.t 11),none,[3]⟩,
⟨some 6,6,.mk 42 3 [[.s (.pv (.int .i64 0)),.s (.pv (.int .i64 0)),.s (.pv (.string ⟨#[]⟩))]],none,[]⟩,
⟨none,52,.store 3 (.t 6) (.t 15),none,[7,4,2,0,1,2,3,4,7]⟩,
⟨some 7,7,.mv (.t 16),none,[5,8,0,1,2,3,4,5,7,8]⟩,
⟨some 8,8,.mv (.t 17),none,[6,9,0,1,2,3,4,5,6,7,8,9]⟩])
(.seq (.reg [⟨some 18,18,.mv (.t 8),none,[]⟩])
(.cond (.t 18) (.seq (.reg [⟨some 19,19,.build [.s (.pv (.int .i64 0)),.s (.pv (.int .i64 0)),.s (.pv (.string ⟨#[]⟩))] [],none,[]⟩,
⟨none,45,.store 3 (.t 4) (.t 19),none,[0,0]⟩,
⟨some 5,5,.mv (.k (.c (.s (.pv (.int .i64 4))))),none,[1,0,1]⟩])
.ret) .skip)))
(.seq (.reg [⟨some 21,21,.mv (.t 0),none,[]⟩,
⟨some 22,22,.nilc (.t 21),none,[0]⟩,
⟨some 23,23,.fld 0 (.t 22),none,[1]⟩,
⟨some 24,24,.fld 5 (.t 23),none,[2]⟩,
⟨some 25,25,.load true 2 (.t 24),none,[3]⟩,
⟨some 26,26,.mv (.t 1),none,[]⟩,
⟨some 27,27,.call 116 [.t 25,.t 26],none,[4,5]⟩,
⟨some 20,20,.mv (.t 27),none,[6]⟩,
⟨some 28,28,.ext 0 (.t 20),none,[7]⟩,
⟨some 29,29,.ext 1 (.t 20),none,[7]⟩,
⟨some 9,9,.mk 42 3 [[.s (.pv (.int .i64 0)),.s (.pv (.int .i64 0)),.s (.pv (.string ⟨#[]⟩))]],none,[]⟩,
⟨none,55,.store 3 (.t 9) (.t 28),none,[10,8,6,0,1,2,3,4,5,6,7,8,10]⟩,
⟨some 10,10,.mv (.t 29),none,[9,11,0,1,2,3,4,5,6,7,8,9,10,11]⟩])
(.seq (.reg [⟨some 30,30,.mv (.t 10),none,[]⟩])
(.block 0 (.seq (.reg [⟨some 34,34,.bin false .eql (.t 30) (.k (.c (.s (.pv (.int .i64 0))))),none,[]⟩,
⟨some 33,33,.mv (.t 34),none,[0]⟩])
(.cond (.t 33) (.seq (.reg [⟨some 35,35,.build [.s (.pv (.int .i64 0)),.s (.pv (.int .i64 0)),.s (.pv (.string ⟨#[]⟩))] [],none,[]⟩,
⟨none,45,.store 3 (.t 4) (.t 35),none,[0,0]⟩,
⟨some 5,5,.mv (.k (.c (.s (.pv (.int .i64 4))))),none,[1,0,1]⟩])
.ret) (.seq (.reg [⟨some 37,37,.bin false .eql (.t 30) (.k (.c (.s (.pv (.int .i64 3))))),none,[]⟩,
⟨some 36,36,.mv (.t 37),none,[0]⟩])
(.cond (.t 36) (.seq (.reg [⟨some 38,38,.mv (.t 0),none,[]⟩,
⟨some 39,39,.mv (.t 1),none,[]⟩,
⟨some 40,40,.build [.s (.pv (.int .i64 0)),.s (.pv (.int .i64 0)),.s (.pv (.string ⟨#[]⟩))] [(0,1,(.t 39)),(1,1,(.k (.c (.s (.pv (.int .i64 1))))))],none,[1]⟩,
⟨some 41,41,.call 117 [.t 38,.t 40,.k (.c (.s (.pv (.bool true))))],none,[0,2]⟩,
⟨some 42,42,.ext 0 (.t 41),none,[3]⟩,
⟨some 43,43,.ext 1 (.t 41),none,[3]⟩,
⟨none,50,.store 3 (.t 4) (.t 42),none,[4,3,0,1,2,3,4,5]⟩,
⟨some 5,5,.mv (.t 43),none,[5,6,0,1,2,3,4,5,6]⟩])
.ret) (.seq (.reg [⟨some 31,31,.build [.s (.pv (.int .i64 0)),.s (.pv (.int .i64 0)),.s (.pv (.string ⟨#[]⟩))] [],none,[]⟩,
⟨some 32,32,.mv (.t 10),none,[]⟩,
⟨none,46,.store 3 (.t 4) (.t 31),none,[0,0]⟩,
⟨some 5,5,.mv (.t 32),none,[1,2,0,1,2]⟩])
.ret))))))))))
theorem fn74 : FnIs Tryz.prog 74 ac74 [.cell 4 true 3,.t 5] 44 := ⟨Tryz.f74,Tryz.func74,by kernel_rfl,by kernel_rfl,by kernel_rfl⟩
def ac75 : ACode := (.seq (.reg [⟨some 4,4,.mk 42 3 [[.s (.pv (.int .i64 0)),.s (.pv (.int .i64 0)),.s (.pv (.string ⟨#[]⟩))]],none,[]⟩,
⟨some 5,5,.mv (.k (.c (.s (.pv (.int .i64 0))))),none,[]⟩])
(.seq (.reg [⟨some 9,9,.mv (.t 0),none,[]⟩,
⟨some 10,10,.mv (.t 1),none,[]⟩,
⟨some 11,11,.call 118 [.t 9,.t 10],none,[0,1]⟩,
⟨some 8,8,.mv (.t 11),none,[2]⟩,
⟨some 12,12,.ext 0 (.t 8),none,[3]⟩,
⟨some 13,13,.ext 1 (.t 8),none,[3]⟩,
⟨some 6,6,.mk 42 3 [[.s (.pv (.int .i64 0)),.s (.pv (.int .i64 0)),.s (.pv (.string ⟨#[]⟩))]],none,[]⟩,
⟨none,25,.store 3 (.t 6) (.t 12),none,[6,4,2,0,1,2,3,4,6]⟩,
⟨some 7,7,.mv (.t 13),none,[5,7,0,1,2,3,4,5,6,7]⟩])
(.seq (.seq (.reg [⟨some 14,14,.mv (.t 7),none,[]⟩,
⟨some 15,15,.not (.t 14),none,[0]⟩])
(.cond (.t 15) (.seq (.reg [⟨some 16,16,.build [.s (.pv (.int .i64 0)),.s (.pv (.int .i64 0)),.s (.pv (.string ⟨#[]⟩))] [],none,[]⟩,
⟨none,19,.store 3 (.t 4) (.t 16),none,[0,0]⟩,
⟨some 5,5,.mv (.k (.c (.s (.pv (.int .i64 12))))),none,[1,0,1]⟩])
.ret) .skip))
(.seq (.reg [⟨some 17,17,.load true 3 (.t 6),none,[]⟩,
⟨none,19,.store 3 (.t 4) (.t 17),none,[0,0]⟩,
⟨some 5,5,.mv (.k (.c (.s (.pv (.int .i64 0))))),none,[1,0,1]⟩])
.ret))))
theorem fn75 : FnIs Tryz.prog 75 ac75 [.cell 4 true 3,.t 5] 18 := ⟨Tryz.f75,Tryz.func75,by kernel_rfl,by kernel_rfl,by kernel_rfl⟩
def ac76 : ACode := (.seq (.reg [⟨some 6,6,.mk 42 3 [[.s (.pv (.int .i64 0)),.s (.pv (.int .i64 0)),.s (.pv (.string ⟨#[]⟩))]],none,[]⟩,
⟨some 7,7,.mv (.k (.c (.s (.pv (.int .i64 0))))),none,[]⟩])
(.seq (.seq (.reg [⟨some 12,12,.mv (.t 0),none,[]⟩,
⟨some 13,13,.mv (.t 1),none,[]⟩,
⟨some 14,14,.call 118 [.t 12,.t 13],none,[0,1]⟩,
⟨some 11,11,.mv (.t 14),none,[2]⟩,
⟨some 15,15,.ext 0 (.t 11),none,[3]⟩,
⟨some 16,16,.ext 1 (.t 11),none,[3]⟩,
⟨some 8,8,.mk 42 3 [[.s (.pv (.int .i64 0)),.s (.pv (.int .i64 0)),.s (.pv (.string ⟨#[]⟩))]],none,[]⟩,
⟨none,53,.store 3 (.t 8) (.t 15),none,[6,4,2,0,1,2,3,4,6]⟩,
⟨some 9,9,.mv (.t 16),none,[5,7,0,1,2,3,4,5,6,7]⟩])
(.seq (.reg [⟨some 17,17,.mv (.t 9),none,[]⟩,
⟨some 18,18,.not (.t 17),none,[0]⟩])
(.cond (.t 18) (.seq (.reg [⟨some 19,19,.build [.s (.pv (.int .i64 0)),.s (.pv (.int .i64 0)),.s (.pv (.string ⟨#[]⟩))] [],none,[]⟩,
⟨none,47,.store 3 (.t 6) (.t 19),none,[0,0]⟩,
⟨some 7,7,.mv (.k (.c (.s (.pv (.int .i64 12))))),none,[1,0,1]⟩])
.ret) .skip)))
(.seq (.seq (.draw [⟨some 20,20,.mv (.t 0),none,[]⟩,
⟨some 21,21,.mv (.t 0),none,[]⟩,
⟨some 22,22,.nilc (.t 21),none,[1]⟩,
⟨some 23,23,.fld 0 (.t 22),none,[2]⟩,
⟨some 24,24,.fld 0 (.t 23),none,[3]⟩,
⟨some 25,25,.load true 5 (.t 24),none,[4]⟩,
⟨some 26,26,.mv (.t 1),none,[]⟩,
⟨some 27,27,.mv (.t 2),none,[]⟩,
⟨some 28,28,.mv (.t 0),none,[]⟩,
⟨some 29,29,.nilc (.t 28),none,[8]⟩,
⟨some 30,30,.fld 0 (.t 29),none,[9]⟩,
⟨some 31,31,.fld 7 (.t 30),none,[10]⟩,
⟨some 32,32,.load false 1 (.t 31),none,[11]⟩,
⟨some 33,33,.call 119 [.t 25,.t 26,.t 27,.t 32],none,[5,6,7,12]⟩,
⟨some 34,34,.ext 0 (.t 33),none,[13]⟩,
⟨some 35,35,.ext 1 (.t 33),none,[13]⟩,
⟨some 36,36,.call 114 [.t 20,.t 34,.t 35],none,[0,14,15,13]⟩,
⟨some 10,10,.mv (.t 36),none,[16,16,0,1,2,3,4,5,6,7,8,9,10,11,12,13,14,15,16]⟩])
(.seq (.reg [⟨some 37,37,.mv (.t 10),none,[]⟩,
⟨some 38,38,.bin false .neq (.t 37) (.k (.c (.s (.pv (.int .i64 0))))),none,[0]⟩])
(.cond (.t 38) (.seq (.reg [⟨some 39,39,.build [.s (.pv (.int .i64 0)),.s (.pv (.int .i64 0)),.s (.pv (.string ⟨#[]⟩))] [],none,[]⟩,
⟨some 40,40,.mv (.t 10),none,[]⟩,
⟨none,48,.store 3 (.t 6) (.t 39),none,[0,0]⟩,
⟨some 7,7,.mv (.t 40),none,[1,2,0,1,2]⟩])
.ret) .skip)))
(.seq (.reg [⟨some 41,41,.mv (.t 0),none,[]⟩,
⟨some 42,42,.mv (.t 1),none,[]⟩,
⟨some 43,43,.call 75 [.t 41,.t 42],none,[0,1]⟩,
⟨some 44,44,.ext 0 (.t 43),none,[2]⟩,
⟨some 45,45,.ext 1 (.t 43),none,[2]⟩,
⟨none,51,.store 3 (.t 6) (.t 44),none,[3,2,0,1,2,3,4]⟩,
⟨some 7,7,.mv (.t 45),none,[4,5,0,1,2,3,4,5]⟩])
.ret))))
theorem fn76 : FnIs Tryz.prog 76 ac76 [.cell 6 true 3,.t 7] 46 := ⟨Tryz.f76,Tryz.func76,by kernel_rfl,by kernel_rfl,by kernel_rfl⟩
def ac77 : ACode := (.seq (.reg [⟨some 4,4,.mv (.k (.c (.s (.pv (.int .i64 0))))),none,[]⟩])
(.seq (.seq (.reg [⟨some 8,8,.mv (.t 0),none,[]⟩,
⟨some 9,9,.mv (.t 1),none,[]⟩,
⟨some 10,10,.call 118 [.t 8,.t 9],none,[0,1]⟩,
⟨some 7,7,.mv (.t 10),none,[2]⟩,
⟨some 11,11,.ext 0 (.t 7),none,[3]⟩,
⟨some 12,12,.ext 1 (.t 7),none,[3]⟩,
⟨some 5,5,.mk 42 3 [[.s (.pv (.int .i64 0)),.s (.pv (.int .i64 0)),.s (.pv (.string ⟨#[]⟩))]],none,[]⟩,
⟨none,33,.store 3 (.t 5) (.t 11),none,[6,4,2,0,1,2,3,4,6]⟩,
⟨some 6,6,.mv (.t 12),none,[5,7,0,1,2,3,4,5,6,7]⟩])
(.seq (.reg [⟨some 13,13,.mv (.t 6),none,[]⟩,
⟨some 14,14,.not (.t 13),none,[0]⟩])
(.cond (.t 14) (.seq (.reg [⟨some 4,4,.mv (.k (.c (.s (.pv (.int .i64 12))))),none,[]⟩])
.ret) .skip)))
(.seq (.reg [⟨some 15,15,.mv (.t 0),none,[]⟩,
⟨some 16,16,.mv (.t 0),none,[]⟩,
⟨some 17,17,.nilc (.t 16),none,[1]⟩,
⟨some 18,18,.fld 0 (.t 17),none,[2]⟩,
⟨some 19,19,.fld 0 (.t 18),none,[3]⟩,
⟨some 20,20,.load true 5 (.t 19),none,[4]⟩,
⟨some 21,21,.mv (.t 1),none,[]⟩,
⟨some 22,22,.call 120 [.t 20,.t 21],none,[5,6]⟩,
⟨some 23,23,.ext 0 (.t 22),none,[7]⟩,
⟨some 24,24,.ext 1 (.t 22),none,[7]⟩,
⟨some 25,25,.call 114 [.t 15,.t 23,.t 24],none,[0,8,9,7]⟩,
⟨some 4,4,.mv (.t 25),none,[10,10,0,1,2,3,4,5,6,7,8,9,10]⟩])
.ret)))
theorem fn77 : FnIs Tryz.prog 77 ac77 [.t 4] 26 := ⟨Tryz.f77,Tryz.func77,by kernel_rfl,by kernel_rfl,by kernel_rfl⟩
def ac78 : ACode := (.seq (.reg [⟨some 4,4,.mv (.k (.c (.s (.pv (.int .i64 0))))),none,[]⟩])
(.seq (.reg [⟨some 11,11,.mv (.t 0),none,[]⟩,
⟨some 12,12,.mv (.t 1),none,[]⟩,
⟨some 13,13,.call 113 [.t 11,.t 12],none,[0,1]⟩,
⟨some 10,10,.mv (.t 13),none,[2]⟩,
⟨some 14,14,.ext 0 (.t 10),none,[3]⟩,
⟨some 15,15,.ext 1 (.t 10),none,[3]⟩,
⟨some 16,16,.ext 2 (.t 10),none,[3]⟩,
⟨some 5,5,.mk 42 3 [[.s (.pv (.int .i64 0)),.s (.pv (.int .i64 0)),.s (.pv (.string ⟨#[]⟩))]],none,[]⟩,
⟨none,59,.store 3 (.t 5) (.t 14),none,[7,4,2,0,1,2,3,4,7]⟩,
⟨some 6,6,.mv (.t 15),none,[5,8,0,1,2,3,4,5,7,8]⟩,
⟨some 7,7,.mv (.t 16),none,[6,9,0,1,2,3,4,5,6,7,8,9]⟩])
(.seq (.reg [⟨some 18,18,.mv (.t 0),none,[]⟩,
⟨some 19,19,.nilc (.t 18),none,[0]⟩,
⟨some 20,20,.fld 0 (.t 19),none,[1]⟩,
⟨some 21,21,.fld 5 (.t 20),none,[2]⟩,
⟨some 22,22,.load true 2 (.t 21),none,[3]⟩,
⟨some 23,23,.mv (.t 1),none,[]⟩,
⟨some 24,24,.call 116 [.t 22,.t 23],none,[4,5]⟩,
⟨some 17,17,.mv (.t 24),none,[6]⟩,
⟨some 25,25,.ext 0 (.t 17),none,[7]⟩,
⟨some 26,26,.ext 1 (.t 17),none,[7]⟩,
⟨some 8,8,.mk 42 3 [[.s (.pv (.int .i64 0)),.s (.pv (.int .i64 0)),.s (.pv (.string ⟨#[]⟩))]],none,[]⟩,
⟨none,62,.store 3 (.t 8) (.t 25),none,[10,8,6,0,1,2,3,4,5,6,7,8,10]⟩,
⟨some 9,9,.mv (.t 26),none,[9,11,0,1,2,3,4,5,6,7,8,9,10,11]⟩])
(.seq (.block 0 (.seq (.reg [⟨some 28,28,.mv (.t 6),none,[]⟩,
⟨some 29,29,.bin false .gtr (.t 28) (.k (.c (.s (.pv (.int .i64 0))))),none,[0]⟩,
⟨some 27,27,.mv (.t 29),none,[1]⟩])
(.cond (.t 27) (.seq (.reg [⟨some 4,4,.mv (.k (.c (.s (.pv (.int .i64 6))))),none,[]⟩])
.ret) (.seq (.reg [⟨some 31,31,.mv (.t 7),none,[]⟩,
⟨some 30,30,.mv (.t 31),none,[0]⟩])
(.cond (.t 30) (.reg [⟨some 32,32,.mv (.t 0),none,[]⟩,
⟨some 33,33,.mv (.t 0),none,[]⟩,
⟨some 34,34,.nilc (.t 33),none,[1]⟩,
⟨some 35,35,.fld 0 (.t 34),none,[2]⟩,
⟨some 36,36,.fld 0 (.t 35),none,[3]⟩,
⟨some 37,37,.load true 5 (.t 36),none,[4]⟩,
⟨some 38,38,.mv (.t 1),none,[]⟩,
⟨some 39,39,.call 121 [.t 37,.t 38],none,[5,6]⟩,
⟨some 40,40,.ext 0 (.t 39),none,[7]⟩,
⟨some 41,41,.ext 1 (.t 39),none,[7]⟩,
⟨some 42,42,.call 114 [.t 32,.t 40,.t 41],none,[0,8,9,7]⟩]) (.seq (.reg [⟨some 44,44,.mv (.t 9),none,[]⟩,
⟨some 45,45,.bin false .neq (.t 44) (.k (.c (.s (.pv (.int .i64 0))))),none,[0]⟩,
⟨some 43,43,.mv (.t 45),none,[1]⟩])
(.cond (.t 43) (.seq (.reg [⟨some 4,4,.mv (.k (.c (.s (.pv (.int .i64 3))))),none,[]⟩])
.ret) .skip)))))))
(.seq (.seq (.reg [⟨some 46,46,.mv (.t 9),none,[]⟩,
⟨some 47,47,.bin false .neq (.t 46) (.k (.c (.s (.pv (.int .i64 3))))),none,[0]⟩])
(.cond (.t 47) (.reg [⟨some 48,48,.mv (.t 0),none,[]⟩,
⟨some 49,49,.mv (.t 1),none,[]⟩,
⟨some 50,50,.call 122 [.t 48,.t 49],none,[0,1]⟩]) .skip))
(.seq (.reg [⟨some 4,4,.mv (.k (.c (.s (.pv (.int .i64 0))))),none,[]⟩])
.ret))))))
theorem fn78 : FnIs Tryz.prog 78 ac78 [.t 4] 51 := ⟨Tryz.f78,Tryz.func78,by kernel_rfl,by kernel_rfl,by kernel_rfl⟩
def ac79 : ACode := (.seq (.reg [⟨some 4,4,.mv (.k (.c (.s (.pv (.int .i64 0))))),none,[]⟩])
(.seq (.reg [⟨some 13,13,.mv (.t 0),none,[]⟩,
⟨some 14,14,.mv (.t 1),none,[]⟩,
⟨some 15,15,.call 113 [.t 13,.t 14],none,[0,1]⟩,
⟨some 12,12,.mv (.t 15),none,[2]⟩,
⟨some 16,16,.ext 0 (.t 12),none,[3]⟩,
⟨some 17,17,.ext 1 (.t 12),none,[3]⟩,
⟨some 18,18,.ext 2 (.t 12),none,[3]⟩,
⟨some 5,5,.mk 42 3 [[.s (.pv (.int .i64 0)),.s (.pv (.int .i64 0)),.s (.pv (.string ⟨#[]⟩))]],none,[]⟩,
⟨none,56,.store 3 (.t 5) (.t 16),none,[7,4,2,0,1,2,3,4,7]⟩,
⟨some 6,6,.mv (.t 17),none,[5,8,0,1,2,3,4,5,7,8]⟩,
⟨some 7,7,.mv (.t 18),none,[6,9,0,1,2,3,4,5,6,7,8,9]⟩])
(.seq (.seq (.reg [⟨some 19,19,.mv (.t 7),none,[]⟩,
⟨some 20,20,.not (.t 19),none,[0]⟩])
(.cond (.t 20) (.seq (.seq (.reg [⟨some 22,22,.mv (.t 0),none,[]⟩,
⟨some 23,23,.nilc (.t 22),none,[0]⟩,
⟨some 24,24,.fld 0 (.t 23),none,[1]⟩,
⟨some 25,25,.fld 5 (.t 24),none,[2]⟩,
⟨some 26,26,.load true 2 (.t 25),none,[3]⟩,
⟨some 27,27,.mv (.t 1),none,[]⟩,
⟨some 28,28,.call 116 [.t 26,.t 27],none,[4,5]⟩,
⟨some 21,21,.mv (.t 28),none,[6]⟩,
⟨some 29,29,.ext 0 (.t 21),none,[7]⟩,
⟨some 30,30,.ext 1 (.t 21),none,[7]⟩,
⟨some 8,8,.mk 42 3 [[.s (.pv (.int .i64 0)),.s (.pv (.int .i64 0)),.s (.pv (.string ⟨#[]⟩))]],none,[]⟩,
⟨none,59,.store 3 (.t 8) (.t 29),none,[10,8,6,0,1,2,3,4,5,6,7,8,10]⟩,
⟨some 9,9,.mv (.t 30),none,[9,11,0,1,2,3,4,5,6,7,8,9,10,11]⟩])
(.seq (.reg [⟨some 31,31,.mv (.t 9),none,[]⟩,
⟨some 32,32,.bin false .neq (.t 31) (.k (.c (.s (.pv (.int .i64 0))))),none,[0]⟩])
(.cond (.t 32) (.seq (.reg [⟨some 4,4,.mv (.k (.c (.s (.pv (.int .i64 3))))),none,[]⟩])
.ret) .skip)))
(.seq (.reg [⟨some 4,4,.mv (.k (.c (.s (.pv (.int .i64 0))))),none,[]⟩])
.ret)) .skip))
(.seq (.seq (.reg [⟨some 34,34,.mv (.t 0),none,[]⟩,
⟨some 35,35,.nilc (.t 34),none,[0]⟩,
⟨some 36,36,.fld 0 (.t 35),none,[1]⟩,
⟨some 37,37,.fld 0 (.t 36),none,[2]⟩,
⟨some 38,38,.fld 4 (.t 37),none,[3]⟩,
⟨some 39,39,.load false 1 (.t 38),none,[4]⟩,
⟨some 40,40,.mv (.t 1),none,[]⟩,
⟨some 41,41,.call 123 [.t 39,.t 40],none,[5,6]⟩,
⟨some 33,33,.mv (.t 41),none,[7]⟩,
⟨some 42,42,.ext 0 (.t 33),none,[8]⟩,
⟨some 43,43,.ext 1 (.t 33),none,[8]⟩,
⟨some 10,10,.mv (.t 42),none,[9,7,0,1,2,3,4,5,6,7,8,9]⟩,
⟨some 11,11,.mv (.t 43),none,[10,11,0,1,2,3,4,5,6,7,8,9,10,11]⟩])
(.seq (.reg [⟨some 44,44,.mv (.t 11),none,[]⟩])
(.cond (.t 44) (.reg [⟨some 45,45,.mv (.t 0),none,[]⟩,
⟨some 46,46,.load true 3 (.t 5),none,[]⟩,
⟨some 47,47,.call 124 [.t 45,.t 46],none,[0,1]⟩]) .skip)))
(.seq (.reg [⟨some 4,4,.mv (.k (.c (.s (.pv (.int .i64 0))))),none,[]⟩])
.ret)))))
theorem fn79 : FnIs Tryz.prog 79 ac79 [.t 4] 48 := ⟨Tryz.f79,Tryz.func79,by kernel_rfl,by kernel_rfl,by kernel_rfl⟩
def ac80 : ACode := (.seq (.draw [⟨some 9,9,.mv (.t 0),none,[]⟩,
⟨some 10,10,.nilc (.t 9),none,[0]⟩,
⟨some 11,11,.fld 0 (.t 10),none,[1]⟩,
⟨some 12,12,.fld 0 (.t 11),none,[2]⟩,
⟨some 13,13,.fld 4 (.t 12),none,[3]⟩,
⟨some 14,14,.load false 1 (.t 13),none,[4]⟩,
⟨some 15,15,.mv (.t 0),none,[]⟩,
⟨some 16,16,.nilc (.t 15),none,[6]⟩,
⟨some 17,17,.fld 0 (.t 16),none,[7]⟩,
⟨some 18,18,.fld 7 (.t 17),none,[8]⟩,
⟨some 19,19,.load false 1 (.t 18),none,[9]⟩,
⟨some 20,20,.mv (.t 1),none,[]⟩,
⟨some 21,21,.call 125 [.t 14,.t 19,.t 20],none,[5,10,11]⟩,
⟨some 22,22,.len (.t 21),none,[12]⟩,
⟨some 23,23,.mv (.k (.c (.s (.pv (.int .i64 0))))),none,[]⟩])
(.block 0 (.loop (.seq (.reg [⟨some 24,24,.bin false .lss (.t 23) (.t 22),none,[]⟩])
(.seq (.cond (.t 24) .skip (.exit 0))
(.seq (.block 1 (.seq (.reg [⟨some 25,25,.idx 1 (.t 21) (.t 23),none,[]⟩,
⟨some 26,26,.load false 1 (.t 25),none,[0]⟩,
⟨some 5,5,.mv (.t 26),none,[1,0,1]⟩])
(.seq (.reg [⟨some 28,28,.mv (.t 0),none,[]⟩,
⟨some 29,29,.mv (.t 5),none,[]⟩,
⟨some 30,30,.call 113 [.t 28,.t 29],none,[0,1]⟩,
⟨some 27,27,.mv (.t 30),none,[2]⟩,
⟨some 31,31,.ext 0 (.t 27),none,[3]⟩,
⟨some 32,32,.ext 1 (.t 27),none,[3]⟩,
⟨some 33,33,.ext 2 (.t 27),none,[3]⟩,
⟨some 6,6,.mk 42 3 [[.s (.pv (.int .i64 0)),.s (.pv (.int .i64 0)),.s (.pv (.string ⟨#[]⟩))]],none,[]⟩,
⟨none,46,.store 3 (.t 6) (.t 31),none,[7,4,2,0,1,2,3,4,7]⟩,
⟨some 7,7,.mv (.t 32),none,[5,8,0,1,2,3,4,5,7,8]⟩,
⟨some 8,8,.mv (.t 33),none,[6,9,0,1,2,3,4,5,6,7,8,9]⟩])
(.reg [⟨some 34,34,.mv (.t 0),none,[]⟩,
⟨some 35,35,.load true 3 (.t 6),none,[]⟩,
⟨some 36,36,.call 124 [.t 34,.t 35],none,[0,1]⟩]))))
(.reg [⟨some 37,37,.bin false .add (.t 23) (.k (.c (.s (.pv (.int .i64 1))))),none,[]⟩,
⟨some 23,23,.mv (.t 37),none,[0]⟩])))))))
theorem fn80 : FnIs Tryz.prog 80 ac80 [] 38 := ⟨Tryz.f80,Tryz.func80,by kernel_rfl,by kernel_rfl,by kernel_rfl⟩
def ac81 : ACode := (.seq (.reg [⟨some 2,2,.box 46 69 (.t 0),none,[]⟩,
⟨some 4,4,.mv (.k (.c (.s (.pv (.bool false))))),none,[]⟩])
(.seq (.reg [⟨some 5,5,.mv (.k (.c (.s (.pv (.int .i64 0))))),none,[]⟩])
(.seq (.seq (.reg [⟨some 6,6,.mv (.k (.c (.s (.pv (.int .i64 1))))),none,[]⟩])
(.block 0 (.loop (.seq (.seq (.reg [⟨some 7,7,.mv (.t 6),none,[]⟩,
⟨some 8,8,.bin false .lss (.t 7) (.k (.c (.s (.pv (.int .i64 17))))),none,[0]⟩])
(.cond (.t 8) .skip (.exit 0)))
(.seq (.block 1 (.seq (.reg [⟨some 11,11,.mv (.t 6),none,[]⟩,
⟨some 12,12,.fld 51 (.t 2),none,[]⟩,
⟨some 13,13,.aidx 17 1 (.t 12) (.t 11),none,[1,0]⟩,
⟨some 14,14,.load false 1 (.t 13),none,[2]⟩,
⟨some 15,15,.bin false .gtr (.t 14) (.k (.c (.s (.pv (.int .i64 0))))),none,[3]⟩])
(.cond (.t 15) (.reg [⟨some 16,16,.mv (.t 5),none,[]⟩,
⟨some 17,17,.bin false .add (.t 16) (.k (.c (.s (.pv (.int .i64 1))))),none,[0]⟩,
⟨some 5,5,.mv (.t 17),none,[1,0,1]⟩]) .skip)))
(.reg [⟨some 9,9,.mv (.t 6),none,[]⟩,
⟨some 10,10,.bin false .add (.t 9) (.k (.c (.s (.pv (.int .i64 1))))),none,[0]⟩,
⟨some 6,6,.mv (.t 10),none,[1,0,1]⟩]))))))
(.seq (.reg [⟨some 18,18,.mv (.t 1),none,[]⟩,
⟨some 19,19,.fld 51 (.t 2),none,[]⟩,
⟨some 20,20,.aidx 17 1 (.t 19) (.t 18),none,[1,0]⟩,
⟨some 21,21,.load false 1 (.t 20),none,[2]⟩,
⟨some 22,22,.bin false .eql (.t 21) (.k (.c (.s (.pv (.int .i64 0))))),none,[3]⟩,
⟨some 23,23,.mv (.t 22),none,[4]⟩,
⟨some 24,24,.mv (.t 5),(some (23,true)),[5]⟩,
⟨some 25,25,.fld 68 (.t 2),(some (23,true)),[5]⟩,
⟨some 26,26,.load false 1 (.t 25),(some (23,true)),[7,5]⟩,
⟨some 27,27,.bin false .eql (.t 24) (.t 26),(some (23,true)),[6,8,5]⟩,
⟨some 28,28,.pick (.t 23) (.t 27) (.k (.c (.s (.pv (.bool false))))),none,[5,9]⟩,
⟨some 4,4,.mv (.t 28),none,[10,5,0,1,2,3,4,5,6,7,8,9,10]⟩])
.ret))))
theorem fn81 : FnIs Tryz.prog 81 ac81 [.t 4] 29 := ⟨Tryz.f81,Tryz.func81,by kernel_rfl,by kernel_rfl,by kernel_rfl⟩
def ac113 : ACode := (.seq (.reg [⟨some 4,4,.mk 42 3 [[.s (.pv (.int .i64 0)),.s (.pv (.int .i64 0)),.s (.pv (.string ⟨#[]⟩))]],none,[]⟩,
⟨some 5,5,.mv (.k (.c (.s (.pv (.int .i64 0))))),none,[]⟩,
⟨some 6,6,.mv (.k (.c (.s (.pv (.bool false))))),none,[1]⟩])
(.seq (.reg [⟨some 10,10,.mv (.t 0),none,[]⟩,
⟨some 11,11,.nilc (.t 10),none,[0]⟩,
⟨some 12,12,.fld 0 (.t 11),none,[1]⟩,
⟨some 13,13,.fld 0 (.t 12),none,[2]⟩,
⟨some 14,14,.load true 5 (.t 13),none,[3]⟩,
⟨some 15,15,.mv (.t 1),none,[]⟩,
⟨some 16,16,.call 139 [.t 14,.t 15],none,[4,5]⟩,
⟨some 9,9,.mv (.t 16),none,[6]⟩,
⟨some 17,17,.ext 0 (.t 9),none,[7]⟩,
⟨some 18,18,.ext 1 (.t 9),none,[7]⟩,
⟨some 7,7,.mv (.t 17),none,[8,6,0,1,2,3,4,5,6,7,8]⟩,
⟨some 8,8,.mv (.t 18),none,[9,10,0,1,2,3,4,5,6,7,8,9,10]⟩])
(.seq (.seq (.reg [⟨some 19,19,.mv (.t 8),none,[]⟩,
⟨some 20,20,.not (.t 19),none,[0]⟩])
(.cond (.t 20) (.seq (.reg [⟨some 21,21,.build [.s (.pv (.int .i64 0)),.s (.pv (.int .i64 0)),.s (.pv (.string ⟨#[]⟩))] [],none,[]⟩,
⟨none,43,.store 3 (.t 4) (.t 21),none,[0,0]⟩,
⟨some 5,5,.mv (.k (.c (.s (.pv (.int .i64 0))))),none,[1,0,1]⟩,
⟨some 6,6,.mv (.k (.c (.s (.pv (.bool false))))),none,[2,0,1,2]⟩])
.ret) .skip))
(.seq (.draw [⟨some 22,22,.mv (.t 0),none,[]⟩,
⟨some 23,23,.nilc (.t 22),none,[0]⟩,
⟨some 24,24,.fld 0 (.t 23),none,[1]⟩,
⟨some 25,25,.fld 0 (.t 24),none,[2]⟩,
⟨some 26,26,.fld 3 (.t 25),none,[3]⟩,
⟨some 27,27,.load false 1 (.t 26),none,[4]⟩,
⟨some 28,28,.mv (.t 7),none,[]⟩,
⟨some 29,29,.idx 3 (.t 27) (.t 28),none,[5,6]⟩,
⟨some 30,30,.load true 3 (.t 29),none,[7]⟩,
⟨some 31,31,.mv (.t 0),none,[]⟩,
⟨some 32,32,.nilc (.t 31),none,[9]⟩,
⟨some 33,33,.fld 0 (.t 32),none,[10]⟩,
⟨some 34,34,.fld 0 (.t 33),none,[11]⟩,
⟨some 35,35,.fld 0 (.t 34),none,[12]⟩,
⟨some 36,36,.fld 0 (.t 35),none,[13]⟩,
⟨some 37,37,.load false 1 (.t 36),none,[14]⟩,
⟨some 38,38,.mv (.t 7),none,[]⟩,
⟨some 39,39,.idx 3 (.t 37) (.t 38),none,[15,16]⟩,
⟨some 40,40,.fld 1 (.t 39),none,[17]⟩,
⟨some 41,41,.load false 1 (.t 40),none,[18]⟩,
⟨none,62,.store 3 (.t 4) (.t 30),none,[8,0,1,2,3,4,5,6,7,8]⟩,
⟨some 5,5,.mv (.t 41),none,[19,20,0,1,2,3,4,5,6,7,8,9,10,11,12,13,14,15,16,17,18,19,20]⟩,
⟨some 6,6,.mv (.k (.c (.s (.pv (.bool true))))),none,[21,0,1,2,3,4,5,6,7,8,9,10,11,12,13,14,15,16,17,18,19,20,21]⟩])
.ret))))
theorem fn113 : FnIs Tryz.prog 113 ac113 [.cell 4 true 3,.t 5,.t 6] 42 := ⟨Tryz.f113,Tryz.func113,by kernel_rfl,by kernel_rfl,by kernel_rfl⟩
def ac114 : ACode := (.seq (.reg [⟨some 4,4,.box 34 5 (.t 1),none,[]⟩,
⟨some 6,6,.mv (.k (.c (.s (.pv (.int .i64 0))))),none,[]⟩])
(.seq (.seq (.reg [⟨some 7,7,.mv (.t 2),none,[]⟩,
⟨some 8,8,.bin false .eql (.t 7) (.k (.c (.s (.pv (.int .i64 0))))),none,[0]⟩])
(.cond (.t 8) (.reg [⟨some 9,9,.mv (.t 0),none,[]⟩,
⟨some 10,10,.load true 5 (.t 4),none,[]⟩,
⟨some 11,11,.nilc (.t 9),none,[0,0,1]⟩,
⟨some 12,12,.fld 0 (.t 11),none,[2,0,1]⟩,
⟨some 13,13,.fld 0 (.t 12),none,[3,0,1]⟩,
⟨none,20,.store 5 (.t 13) (.t 10),none,[4,1,0,1]⟩]) .skip))
(.seq (.reg [⟨some 14,14,.mv (.t 2),none,[]⟩,
⟨some 6,6,.mv (.t 14),none,[0,0]⟩])
.ret)))
theorem fn114 : FnIs Tryz.prog 114 ac114 [.t 6] 15 := ⟨Tryz.f114,Tryz.func114,by kernel_rfl,by kernel_rfl,by kernel_rfl⟩
def ac117 : ACode := (.seq (.reg [⟨some 4,4,.box 42 3 (.t 1),none,[]⟩,
⟨some 6,6,.mk 42 3 [[.s (.pv (.int .i64 0)),.s (.pv (.int .i64 0)),.s (.pv (.string ⟨#[]⟩))]],none,[]⟩,
⟨some 7,7,.mv (.k (.c (.s (.pv (.int .i64 0))))),none,[]⟩])
(.seq (.seq (.reg [⟨some 10,10,.mv (.t 0),none,[]⟩,
⟨some 11,11,.call 143 [.t 10],none,[0]⟩,
⟨some 8,8,.mv (.t 11),none,[1,1,0,1]⟩])
(.seq (.reg [⟨some 12,12,.mv (.t 8),none,[]⟩,
⟨some 13,13,.bin false .neq (.t 12) (.k (.c (.s (.pv (.int .i64 0))))),none,[0]⟩])
(.cond (.t 13) (.seq (.reg [⟨some 14,14,.build [.s (.pv (.int .i64 0)),.s (.pv (.int .i64 0)),.s (.pv (.string ⟨#[]⟩))] [],none,[]⟩,
⟨some 15,15,.mv (.t 8),none,[]⟩,
⟨none,40,.store 3 (.t 6) (.t 14),none,[0,0]⟩,
⟨some 7,7,.mv (.t 15),none,[1,2,0,1,2]⟩])
.ret) .skip)))
(.seq (.seq (.draw [⟨some 16,16,.mv (.t 0),none,[]⟩,
⟨some 17,17,.mv (.t 0),none,[]⟩,
⟨some 18,18,.nilc (.t 17),none,[1]⟩,
⟨some 19,19,.fld 0 (.t 18),none,[2]⟩,
⟨some 20,20,.fld 0 (.t 19),none,[3]⟩,
⟨some 21,21,.load true 5 (.t 20),none,[4]⟩,
⟨some 22,22,.load true 3 (.t 4),none,[]⟩,
⟨some 23,23,.mv (.t 0),none,[]⟩,
⟨some 24,24,.nilc (.t 23),none,[7]⟩,
⟨some 25,25,.fld 0 (.t 24),none,[8]⟩,
⟨some 26,26,.fld 7 (.t 25),none,[9]⟩,
⟨some 27,27,.load false 1 (.t 26),none,[10]⟩,
⟨some 28,28,.mv (.t 2),none,[]⟩,
⟨some 29,29,.call 144 [.t 21,.t 22,.t 27,.t 28],none,[5,6,11,12]⟩,
⟨some 30,30,.ext 0 (.t 29),none,[13]⟩,
⟨some 31,31,.ext 1 (.t 29),none,[13]⟩,
⟨some 32,32,.call 114 [.t 16,.t 30,.t 31],none,[0,14,15,13]⟩,
⟨some 9,9,.mv (.t 32),none,[16,16,0,1,2,3,4,5,6,7,8,9,10,11,12,13,14,15,16]⟩])
(.seq (.reg [⟨some 33,33,.mv (.t 9),none,[]⟩,
⟨some 34,34,.bin false .neq (.t 33) (.k (.c (.s (.pv (.int .i64 0))))),none,[0]⟩])
(.cond (.t 34) (.seq (.reg [⟨some 35,35,.build [.s (.pv (.int .i64 0)),.s (.pv (.int .i64 0)),.s (.pv (.string ⟨#[]⟩))] [],none,[]⟩,
⟨some 36,36,.mv (.t 9),none,[]⟩,
⟨none,40,.store 3 (.t 6) (.t 35),none,[0,0]⟩,
⟨some 7,7,.mv (.t 36),none,[1,2,0,1,2]⟩])
.ret) .skip)))
(.seq (.reg [⟨some 37,37,.load true 3 (.t 4),none,[]⟩,
⟨none,39,.store 3 (.t 6) (.t 37),none,[0,0]⟩,
⟨some 7,7,.mv (.k (.c (.s (.pv (.int .i64 0))))),none,[1,0,1]⟩])
.ret))))
theorem fn117 : FnIs Tryz.prog 117 ac117 [.cell 6 true 3,.t 7] 38 := ⟨Tryz.f117,Tryz.func117,by kernel_rfl,by kernel_rfl,by kernel_rfl⟩
def ac118 : ACode := (.seq (.reg [⟨some 4,4,.mk 42 3 [[.s (.pv (.int .i64 0)),.s (.pv (.int .i64 0)),.s (.pv (.string ⟨#[]⟩))]],none,[]⟩,
⟨some 5,5,.mv (.k (.c (.s (.pv (.bool false))))),none,[]⟩])
(.seq (.reg [⟨some 10,10,.mv (.t 0),none,[]⟩,
⟨some 11,11,.mv (.t 1),none,[]⟩,
⟨some 12,12,.call 113 [.t 10,.t 11],none,[0,1]⟩,
⟨some 9,9,.mv (.t 12),none,[2]⟩,
⟨some 13,13,.ext 0 (.t 9),none,[3]⟩,
⟨some 14,14,.ext 1 (.t 9),none,[3]⟩,
⟨some 15,15,.ext 2 (.t 9),none,[3]⟩,
⟨some 6,6,.mk 42 3 [[.s (.pv (.int .i64 0)),.s (.pv (.int .i64 0)),.s (.pv (.string ⟨#[]⟩))]],none,[]⟩,
⟨none,30,.store 3 (.t 6) (.t 13),none,[7,4,2,0,1,2,3,4,7]⟩,
⟨some 7,7,.mv (.t 14),none,[5,8,0,1,2,3,4,5,7,8]⟩,
⟨some 8,8,.mv (.t 15),none,[6,9,0,1,2,3,4,5,6,7,8,9]⟩])
(.seq (.reg [⟨some 16,16,.load true 3 (.t 6),none,[]⟩,
⟨some 17,17,.mv (.t 8),none,[]⟩,
⟨some 18,18,.mv (.t 17),none,[1]⟩,
⟨some 19,19,.mv (.t 7),(some (18,true)),[2]⟩,
⟨some 20,20,.bin false .gtr (.t 19) (.k (.c (.s (.pv (.int .i64 0))))),(some (18,true)),[3,2]⟩,
⟨some 21,21,.pick (.t 18) (.t 20) (.k (.c (.s (.pv (.bool false))))),none,[2,4]⟩,
⟨none,28,.store 3 (.t 4) (.t 16),none,[0,2,0]⟩,
⟨some 5,5,.mv (.t 21),none,[5,6,0,1,2,3,4,5,6]⟩])
.ret)))
theorem fn118 : FnIs Tryz.prog 118 ac118 [.cell 4 true 3,.t 5] 22 := ⟨Tryz.f118,Tryz.func118,by kernel_rfl,by kernel_rfl,by kernel_rfl⟩
def ac122 : ACode := (.seq (.draw [⟨some 4,4,.mv (.t 0),none,[]⟩,
⟨some 5,5,.mv (.t 0),none,[]⟩,
⟨some 6,6,.nilc (.t 5),none,[1]⟩,
⟨some 7,7,.fld 8 (.t 6),none,[2]⟩,
⟨some 8,8,.load false 1 (.t 7),none,[3]⟩,
⟨some 9,9,.mv (.t 0),none,[]⟩,
⟨some 10,10,.nilc (.t 9),none,[5]⟩,
⟨some 11,11,.fld 0 (.t 10),none,[6]⟩,
⟨some 12,12,.fld 5 (.t 11),none,[7]⟩,
⟨some 13,13,.load true 2 (.t 12),none,[8]⟩,
⟨some 14,14,.mv (.t 1),none,[]⟩,
⟨some 15,15,.build [.s (.pv (.int .i64 0)),.s (.pv (.int .i64 0)),.s (.pv (.string ⟨#[]⟩))] [(0,1,(.t 14))],none,[10]⟩,
⟨some 16,16,.call 147 [.t 13,.t 15],none,[9,11]⟩,
⟨some 17,17,.app 122 3 32 (.t 8) (.t 16),none,[4,12,12]⟩,
⟨some 18,18,.nilc (.t 4),none,[0,0,1,2,3,4,5,6,7,8,9,10,11,12,13]⟩,
⟨some 19,19,.fld 8 (.t 18),none,[14,0,1,2,3,4,5,6,7,8,9,10,11,12,13]⟩,
⟨none,50,.store 1 (.t 19) (.t 17),none,[15,13,13,0,1,2,3,4,5,6,7,8,9,10,11,12,13]⟩])
(.reg [⟨some 21,21,.mv (.t 0),none,[]⟩,
⟨some 22,22,.mv (.t 0),none,[]⟩,
⟨some 23,23,.nilc (.t 22),none,[1]⟩,
⟨some 24,24,.fld 0 (.t 23),none,[2]⟩,
⟨some 25,25,.fld 5 (.t 24),none,[3]⟩,
⟨some 26,26,.load true 2 (.t 25),none,[4]⟩,
⟨some 27,27,.mv (.t 1),none,[]⟩,
⟨some 28,28,.call 148 [.t 26,.t 27],none,[5,6]⟩,
⟨some 20,20,.mv (.t 28),none,[7]⟩,
⟨some 29,29,.ext 0 (.t 20),none,[8]⟩,
⟨some 30,30,.ext 1 (.t 20),none,[8]⟩,
⟨some 31,31,.nilc (.t 21),none,[0,0,1,2,3,4,5,6,7,8,9]⟩,
⟨some 32,32,.fld 0 (.t 31),none,[11,0,1,2,3,4,5,6,7,8,9]⟩,
⟨some 33,33,.fld 5 (.t 32),none,[12,0,1,2,3,4,5,6,7,8,9]⟩,
⟨none,48,.store 2 (.t 33) (.t 29),none,[13,9,7,0,1,2,3,4,5,6,7,8,9]⟩]))
theorem fn122 : FnIs Tryz.prog 122 ac122 [] 34 := ⟨Tryz.f122,Tryz.func122,by kernel_rfl,by kernel_rfl,by kernel_rfl⟩
def ac124 : ACode := (.seq (.reg [⟨some 3,3,.box 42 3 (.t 1),none,[]⟩])
(.seq (.reg [⟨some 4,4,.mv (.t 0),none,[]⟩,
⟨some 5,5,.load true 3 (.t 3),none,[]⟩,
⟨some 6,6,.call 149 [.t 4,.t 5],none,[0,1]⟩])
(.draw [⟨some 7,7,.mv (.t 0),none,[]⟩,
⟨some 8,8,.mv (.t 0),none,[]⟩,
⟨some 9,9,.nilc (.t 8),none,[1]⟩,
⟨some 10,10,.fld 0 (.t 9),none,[2]⟩,
⟨some 11,11,.fld 0 (.t 10),none,[3]⟩,
⟨some 12,12,.load true 5 (.t 11),none,[4]⟩,
⟨some 13,13,.fld 0 (.t 3),none,[]⟩,
⟨some 14,14,.load false 1 (.t 13),none,[6]⟩,
⟨some 15,15,.call 150 [.t 12,.t 14],none,[5,7]⟩,
⟨some 16,16,.ext 0 (.t 15),none,[8]⟩,
⟨some 17,17,.ext 1 (.t 15),none,[8]⟩,
⟨some 18,18,.call 114 [.t 7,.t 16,.t 17],none,[0,9,10,8]⟩])))
theorem fn124 : FnIs Tryz.prog 124 ac124 [] 19 := ⟨Tryz.f124,Tryz.func124,by kernel_rfl,by kernel_rfl,by kernel_rfl⟩
def ac143 : ACode := (.seq (.reg [⟨some 2,2,.mv (.k (.c (.s (.pv (.int .i64 0))))),none,[]⟩])
(.block 0 (.loop (.block 1 (.seq (.reg [⟨some 8,8,.mv (.t 0),none,[]⟩,
⟨some 9,9,.nilc (.t 8),none,[0]⟩,
⟨some 10,10,.fld 0 (.t 9),none,[1]⟩,
⟨some 11,11,.fld 0 (.t 10),none,[2]⟩,
⟨some 12,12,.load true 5 (.t 11),none,[3]⟩,
⟨some 13,13,.call 169 [.t 12],none,[4]⟩,
⟨some 7,7,.mv (.t 13),none,[5]⟩,
⟨some 14,14,.ext 0 (.t 7),none,[6]⟩,
⟨some 15,15,.ext 1 (.t 7),none,[6]⟩,
⟨some 16,16,.ext 2 (.t 7),none,[6]⟩,
⟨some 17,17,.ext 3 (.t 7),none,[6]⟩,
⟨some 3,3,.mk 34 5 [[.zc,.s (.pv (.int .i64 0)),.zc,.zc,.zc]],none,[]⟩,
⟨some 4,4,.mk 42 3 [[.s (.pv (.int .i64 0)),.s (.pv (.int .i64 0)),.s (.pv (.string ⟨#[]⟩))]],none,[]⟩,
⟨none,44,.store 5 (.t 3) (.t 14),none,[11,7,5,0,1,2,3,4,5,6,7,11,12]⟩,
⟨none,45,.store 3 (.t 4) (.t 15),none,[12,8,13,0,1,2,3,4,5,6,7,8,11,12,13]⟩,
⟨some 5,5,.mv (.t 16),none,[9,14,0,1,2,3,4,5,6,7,8,9,11,12,13,14]⟩,
⟨some 6,6,.mv (.t 17),none,[10,15,0,1,2,3,4,5,6,7,8,9,10,11,12,13,14,15]⟩])
(.seq (.seq (.reg [⟨some 18,18,.mv (.t 0),none,[]⟩,
⟨some 19,19,.load true 5 (.t 3),none,[]⟩,
⟨some 20,20,.mv (.t 6),none,[]⟩,
⟨some 21,21,.call 114 [.t 18,.t 19,.t 20],none,[0,1,2]⟩,
⟨some 22,22,.bin false .neq (.t 21) (.k (.c (.s (.pv (.int .i64 0))))),none,[3]⟩,
⟨some 23,23,.mv (.t 22),none,[4,3]⟩,
⟨some 24,24,.mv (.t 5),(some (23,false)),[5]⟩,
⟨some 25,25,.not (.t 24),(some (23,false)),[6,5]⟩,
⟨some 26,26,.pick (.t 23) (.k (.c (.s (.pv (.bool true))))) (.t 25),none,[5,7]⟩])
(.cond (.t 26) (.seq (.reg [⟨some 27,27,.mv (.t 6),none,[]⟩,
⟨some 2,2,.mv (.t 27),none,[0,0]⟩])
.ret) .skip))
(.reg [⟨some 28,28,.mv (.t 0),none,[]⟩,
⟨some 29,29,.load true 3 (.t 4),none,[]⟩,
⟨some 30,30,.call 124 [.t 28,.t 29],none,[0,1]⟩])))))))
theorem fn143 : FnIs Tryz.prog 143 ac143 [.t 2] 31 := ⟨Tryz.f143,Tryz.func143,by kernel_rfl,by kernel_rfl,by kernel_rfl⟩
def ac149 : ACode := (.seq (.reg [⟨some 3,3,.box 42 3 (.t 1),none,[]⟩])
(.seq (.draw [⟨some 4,4,.mv (.t 0),none,[]⟩,
⟨some 5,5,.mv (.t 0),none,[]⟩,
⟨some 6,6,.nilc (.t 5),none,[1]⟩,
⟨some 7,7,.fld 8 (.t 6),none,[2]⟩,
⟨some 8,8,.load false 1 (.t 7),none,[3]⟩,
⟨some 9,9,.mv (.t 0),none,[]⟩,
⟨some 10,10,.nilc (.t 9),none,[5]⟩,
⟨some 11,11,.fld 0 (.t 10),none,[6]⟩,
⟨some 12,12,.fld 5 (.t 11),none,[7]⟩,
⟨some 13,13,.load true 2 (.t 12),none,[8]⟩,
⟨some 14,14,.load true 3 (.t 3),none,[]⟩,
⟨some 15,15,.call 147 [.t 13,.t 14],none,[9,10]⟩,
⟨some 16,16,.app 122 3 32 (.t 8) (.t 15),none,[4,11,11]⟩,
⟨some 17,17,.nilc (.t 4),none,[0,0,1,2,3,4,5,6,7,8,9,10,11,12]⟩,
⟨some 18,18,.fld 8 (.t 17),none,[13,0,1,2,3,4,5,6,7,8,9,10,11,12]⟩,
⟨none,48,.store 1 (.t 18) (.t 16),none,[14,12,12,0,1,2,3,4,5,6,7,8,9,10,11,12]⟩])
(.draw [⟨some 20,20,.mv (.t 0),none,[]⟩,
⟨some 21,21,.mv (.t 0),none,[]⟩,
⟨some 22,22,.nilc (.t 21),none,[1]⟩,
⟨some 23,23,.fld 0 (.t 22),none,[2]⟩,
⟨some 24,24,.fld 5 (.t 23),none,[3]⟩,
⟨some 25,25,.load true 2 (.t 24),none,[4]⟩,
⟨some 26,26,.load true 3 (.t 3),none,[]⟩,
⟨some 27,27,.call 178 [.t 25,.t 26],none,[5,6]⟩,
⟨some 19,19,.mv (.t 27),none,[7]⟩,
⟨some 28,28,.ext 0 (.t 19),none,[8]⟩,
⟨some 29,29,.ext 1 (.t 19),none,[8]⟩,
⟨some 30,30,.nilc (.t 20),none,[0,0,1,2,3,4,5,6,7,8,9]⟩,
⟨some 31,31,.fld 0 (.t 30),none,[11,0,1,2,3,4,5,6,7,8,9]⟩,
⟨some 32,32,.fld 5 (.t 31),none,[12,0,1,2,3,4,5,6,7,8,9]⟩,
⟨none,47,.store 2 (.t 32) (.t 28),none,[13,9,7,0,1,2,3,4,5,6,7,8,9]⟩])))
theorem fn149 : FnIs Tryz.prog 149 ac149 [] 33 := ⟨Tryz.f149,Tryz.func149,by kernel_rfl,by kernel_rfl,by kernel_rfl⟩
end Go.Proofs.YtcbfhpnmhhnjpaaGreat

