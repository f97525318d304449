import Derived.Test.YtonbhokaeodmdaaGreatZb02
import Derived.Test.YtonbhokaeodmdaaGreatProg
import Derived.KernelRfl
set_option linter.unusedVariables false
set_option linter.unusedSimpArgs false
/- Functions of the program, turned (by program) into the small code of the evaluator; the kernel checks each. -/
namespace Go.Proofs.YtonbhokaeodmdaaGreat
open Go
namespace Ev
set_option maxRecDepth 1000000
noncomputable section
def bw4 : CC :=
  cS [iO 6 (.mov vf)] (cS [iC 20 5 [],iM 7 20] (cS [iM 21 0,iC 22 15 [t21],iO 8 (.new 36 6 (.node y0 (.node y0 (.node (.slice none 0 0) .leaf .leaf) (.node y0 .leaf .leaf)) (.node (.slice none 0 0) (.node y0 .leaf .leaf) .leaf))),iN (.st t8 t22 (some 6))] (cS [iM 23 1,iC 24 9 [t23,vI 20001],iM 1 24] (cS [iM 25 2,iO 26 (.fa t8 3),iO 27 (.ld t26 none),iO 28 (.len t27),iO 29 (.bin .sub 3 0 t28 (vI 1)),iC 30 9 [t25,t29],iO 31 (.bin .add 3 0 (vI 1) t30),iM 9 31] (cS [iO 32 (.ld t8 (some 6)),iM 33 1,iC 34 16 [t32,t33],iO 10 (.new 30 1 (.node (.slice none 0 0) .leaf .leaf)),iN (.st t10 t34 (some 1))] (cS [iO 35 (.fa t8 2),iO 36 (.ld t35 none),iO 37 (.fa t8 2),iO 38 (.ld t37 none),iO 39 (.len t38),iO 40 (.bin .sub 3 0 t39 (vI 1)),iO 41 (.ia t36 t40 1),iO 42 (.ld t41 none),iO 43 (.fa t8 2),iO 44 (.ld t43 none),iO 45 (.ia t44 (vI 0) 1),iO 46 (.ld t45 none),iO 47 (.bin .sub 3 0 t42 t46),iM 11 47] (cS [iO 48 (.fa t8 3),iO 49 (.ld t48 none),iM 50 9,iO 51 (.ia t49 t50 1),iO 52 (.ld t51 none),iO 53 (.fa t8 3),iO 54 (.ld t53 none),iO 55 (.ia t54 (vI 0) 1),iO 56 (.ld t55 none),iO 57 (.bin .sub 3 0 t52 t56),iM 12 57] (cS [iO 58 (.fa t8 3),iO 59 (.ld t58 none),iO 60 (.fa t8 3),iO 61 (.ld t60 none),iO 62 (.len t61),iO 63 (.bin .sub 3 0 t62 (vI 1)),iO 64 (.ia t59 t63 1),iO 65 (.ld t64 none),iO 66 (.fa t8 3),iO 67 (.ld t66 none),iO 68 (.ia t67 (vI 0) 1),iO 69 (.ld t68 none),iO 70 (.bin .sub 3 0 t65 t69),iM 13 70] (cS [iO 72 (.ld t8 (some 6)),iO 73 (.ld t10 (some 1)),iM 74 9,iO 75 (.build [y0,y0,y0] [⟨0,⟨1,vI 1⟩⟩,⟨2,⟨1,t74⟩⟩]),iC 76 11 [t72,t73,t75],iM 71 76,iO 77 (.ext t71 0),iO 78 (.ext t71 1),iM 14 77,iM 15 78] (cS [iO 80 (.ld t8 (some 6)),iO 81 (.ld t10 (some 1)),iM 82 9,iO 83 (.build [y0,y0,y0] [⟨0,⟨1,vI 2⟩⟩,⟨2,⟨1,t82⟩⟩]),iC 84 11 [t80,t81,t83],iM 79 84,iO 85 (.ext t79 0),iO 86 (.ext t79 1),iM 16 85,iM 17 86] (cS [iO 88 (.ld t8 (some 6)),iO 89 (.ld t10 (some 1)),iM 90 2,iO 91 (.fa t8 2),iO 92 (.ld t91 none),iO 93 (.len t92),iC 94 9 [t90,t93],iN (.again t10 (some 1) 89),iN (.again t8 (some 6) 88),iO 95 (.build [y0,y0,y0] [⟨0,⟨1,vI 3⟩⟩,⟨1,⟨1,t94⟩⟩]),iC 96 11 [t88,t89,t95],iM 87 96,iO 97 (.ext t87 0),iO 98 (.ext t87 1),iM 18 97,iM 19 98] (cS [iM 99 7,iM 100 99,⟨some ⟨100,true⟩,some 101,.mov t15⟩,⟨some ⟨100,true⟩,some 102,.bin .eql 49 0 t101 (vI 0)⟩,iO 103 (.pick t100 t102 vf),iM 104 103,⟨some ⟨104,true⟩,some 105,.mov t17⟩,⟨some ⟨104,true⟩,some 106,.bin .eql 49 0 t105 (vI 0)⟩,iO 107 (.pick t104 t106 vf),iM 108 107,⟨some ⟨108,true⟩,some 109,.mov t19⟩,⟨some ⟨108,true⟩,some 110,.bin .eql 49 0 t109 (vI 0)⟩,iO 111 (.pick t108 t110 vf),iM 112 111,⟨some ⟨112,true⟩,some 113,.mov t14⟩,⟨some ⟨112,true⟩,some 114,.mov t1⟩,⟨some ⟨112,true⟩,some 115,.bin .mul 3 0 (vI 2) t114⟩,⟨some ⟨112,true⟩,some 116,.mov t11⟩,⟨some ⟨112,true⟩,some 117,.bin .mul 3 0 t115 t116⟩,⟨some ⟨112,true⟩,some 118,.mov t12⟩,⟨some ⟨112,true⟩,some 119,.bin .mul 3 0 t117 t118⟩,⟨some ⟨112,true⟩,some 120,.bin .quo 3 0 t119 (vI 1000000)⟩,⟨some ⟨112,true⟩,some 121,.bin .eql 3 0 t113 t120⟩,iO 122 (.pick t112 t121 vf),iM 123 122,⟨some ⟨123,true⟩,some 124,.mov t16⟩,⟨some ⟨123,true⟩,some 125,.mov t1⟩,⟨some ⟨123,true⟩,some 126,.bin .mul 3 0 (vI 2) t125⟩,⟨some ⟨123,true⟩,some 127,.mov t11⟩,⟨some ⟨123,true⟩,some 128,.bin .mul 3 0 t126 t127⟩,⟨some ⟨123,true⟩,some 129,.bin .quo 3 0 t128 (vI 10000)⟩,⟨some ⟨123,true⟩,some 130,.bin .eql 3 0 t124 t129⟩,iO 131 (.pick t123 t130 vf),iM 132 131,⟨some ⟨132,true⟩,some 133,.mov t18⟩,⟨some ⟨132,true⟩,some 134,.mov t1⟩,⟨some ⟨132,true⟩,some 135,.bin .mul 3 0 (vI 2) t134⟩,⟨some ⟨132,true⟩,some 136,.mov t13⟩,⟨some ⟨132,true⟩,some 137,.bin .mul 3 0 t135 t136⟩,⟨some ⟨132,true⟩,some 138,.bin .quo 3 0 t137 (vI 10000)⟩,⟨some ⟨132,true⟩,some 139,.bin .eql 3 0 t133 t138⟩,iO 140 (.pick t132 t139 vf),iM 6 140] .ret))))))))))))
theorem bw4_is : compF Tryz.prog 4 = some ⟨bw4, 141, [.tmp 6]⟩ := by kernel_rfl
def bw8 : CC :=
  cS [iO 2 (.box 36 t0),iO 4 (.new 30 1 (.node (.slice none 0 0) .leaf .leaf))] (cS [iO 5 (.new 30 1 (.node (.slice none 0 0) .leaf .leaf))] (.seq (cS [iO 6 (.mov (vI 0))] (.block 0 (.loop (.seq (cS [iM 9 6,iO 10 (.fa t2 2),iO 11 (.ld t10 none),iO 12 (.len t11),iO 13 (.bin .lss 3 0 t9 t12)] (.cond t13 .skip (.exit 0))) (.seq (.block 1 (cS [iO 7 (.mov vn)] (.seq (cS [iO 8 (.mov (vI 0))] (.block 2 (.loop (.seq (cS [iM 16 8,iO 17 (.fa t2 3),iO 18 (.ld t17 none),iO 19 (.len t18),iO 20 (.bin .lss 3 0 t16 t19)] (.cond t20 .skip (.exit 2))) (.seq (.block 3 (.items [iM 23 7,iM 24 1,iO 25 (.ld t2 (some 6)),iM 26 6,iM 27 8,iC 28 25 [t25,t26,t27],iO 29 (.ia t24 t28 1),iO 30 (.ld t29 none),iO 31 (.lit 3 1 1 [y0] [⟨0,⟨1,t30⟩⟩]),iO 32 (.app 3 1 8 [y0] false t23 t31),iM 7 32])) (.items [iM 21 8,iO 22 (.bin .add 3 0 t21 (vI 1)),iM 8 22])))))) (.items [iO 33 (.fa t5 0),iO 34 (.ld t33 none),iM 35 7,iO 36 (.lit 22 1 1 [.slice none 0 0] [⟨0,⟨1,t35⟩⟩]),iO 37 (.app 22 1 24 [.slice none 0 0] false t34 t36),iO 38 (.fa t5 0),iN (.st t38 t37 none)])))) (.items [iM 14 6,iO 15 (.bin .add 3 0 t14 (vI 1)),iM 6 15])))))) (cS [iO 39 (.ld t5 (some 1)),iN (.st t4 t39 (some 1))] .ret)))
theorem bw8_is : compF Tryz.prog 8 = some ⟨bw8, 40, [.cell 4 (some 1)]⟩ := by kernel_rfl
def bw9 : CC :=
  cS [iO 4 (.mov (vI 0))] (cS [iM 5 0,iM 6 1,iO 7 (.bin .rem 3 0 t5 t6),iM 8 1,iO 9 (.bin .add 3 0 t7 t8),iM 10 1,iO 11 (.bin .rem 3 0 t9 t10),iM 4 11] .ret)
theorem bw9_is : compF Tryz.prog 9 = some ⟨bw9, 12, [.tmp 4]⟩ := by kernel_rfl
def bw11 : CC :=
  cS [iO 3 (.box 36 t0),iO 4 (.box 30 t1),iO 5 (.box 47 t2),iO 6 (.mov (vI 0)),iO 7 (.mov (vI 0))] (.seq (cS [iO 13 (.ld t3 (some 6)),iC 14 30 [t13],iM 8 14] (cS [iM 15 8,iO 16 (.bin .neq 49 0 t15 (vI 0))] (.cond t16 (cS [iM 17 8,iO 6 (.mov (vI 0)),iM 7 17] .ret) .skip))) (.seq (cS [iO 18 (.ld t3 (some 6)),iO 19 (.ld t4 (some 1)),iC 20 31 [t18,t19],iO 21 (.un .not t20)] (.cond t21 (cS [iO 6 (.mov (vI 0)),iO 7 (.mov (vI 34))] .ret) .skip)) (cS [iO 23 (.ld t3 (some 6)),iO 24 (.ld t5 (some 3)),iC 25 32 [t23,t24],iM 22 25,iO 26 (.ext t22 0),iO 27 (.ext t22 1),iO 28 (.ext t22 2),iM 9 26,iM 10 27,iM 11 28] (.seq (cS [iM 29 11,iO 30 (.bin .neq 49 0 t29 (vI 0))] (.cond t30 (cS [iM 31 11,iO 6 (.mov (vI 0)),iM 7 31] .ret) .skip)) (cS [iM 33 9,iO 34 (.ld t3 (some 6)),iO 35 (.ld t4 (some 1)),iC 36 34 [t34,t35],iC 37 33 [t33,t36],iM 32 37,iO 38 (.ext t32 0),iO 39 (.ext t32 1),iM 12 38,iM 11 39] (cS [iM 40 12,iM 41 10,iC 42 35 [t40,t41],iM 43 11,iM 6 42,iM 7 43] .ret))))))
theorem bw11_is : compF Tryz.prog 11 = some ⟨bw11, 44, [.tmp 6,.tmp 7]⟩ := by kernel_rfl
def bw15 : CC :=
  cS [iO 2 (.new 36 6 (.node y0 (.node y0 (.node (.slice none 0 0) .leaf .leaf) (.node y0 .leaf .leaf)) (.node (.slice none 0 0) (.node y0 .leaf .leaf) .leaf)))] (cS [iM 10 0,iC 11 49 [t10,vI 0,vI 99],iO 12 (.bin .add 3 0 (vI 1) t11),iM 13 0,iC 14 49 [t13,vI 1,vI 9],iO 15 (.bin .add 3 0 (vI 1) t14),iO 16 (.build [y0,y0,.slice none 0 0,.slice none 0 0,y0,y0] [⟨0,⟨1,t12⟩⟩,⟨1,⟨1,t15⟩⟩]),iO 3 (.new 36 6 (.node y0 (.node y0 (.node (.slice none 0 0) .leaf .leaf) (.node y0 .leaf .leaf)) (.node (.slice none 0 0) (.node y0 .leaf .leaf) .leaf))),iN (.st t3 t16 (some 6))] (cS [iM 17 0,iC 18 49 [t17,vI 2,vI 9],iO 19 (.bin .add 3 0 (vI 1) t18),iO 20 (.bin .mul 3 0 (vI 100) t19),iM 4 20] (cS [iO 5 (.mov (vI 0))] (.seq (cS [iO 6 (.mov (vI 0))] (.block 0 (.loop (.seq (cS [iM 21 6,iM 22 0,iC 23 49 [t22,vI 3,vI 3],iO 24 (.bin .add 3 0 (vI 2) t23),iO 25 (.bin .lss 3 0 t21 t24)] (.cond t25 .skip (.exit 0))) (.seq (.block 1 (cS [iO 28 (.fa t3 2),iO 29 (.ld t28 none),iM 30 5,iO 31 (.lit 3 1 1 [y0] [⟨0,⟨1,t30⟩⟩]),iO 32 (.app 3 1 8 [y0] false t29 t31),iO 33 (.fa t3 2),iN (.st t33 t32 none)] (.items [iM 34 5,iM 35 4,iM 36 0,iM 37 6,iO 38 (.bin .add 3 0 (vI 4) t37),iC 39 49 [t36,t38,vI 3],iO 40 (.bin .add 3 0 (vI 1) t39),iO 41 (.bin .mul 3 0 t35 t40),iO 42 (.bin .add 3 0 t34 t41),iM 43 0,iC 44 49 [t43,vI 8,vI 2],iM 45 0,iM 46 6,iO 47 (.bin .add 3 0 (vI 9) t46),iC 48 49 [t45,t47,vI 2],iO 49 (.bin .mul 3 0 t44 t48),iO 50 (.bin .mul 3 0 t49 (vI 7)),iO 51 (.bin .add 3 0 t42 t50),iM 5 51]))) (.items [iM 26 6,iO 27 (.bin .add 3 0 t26 (vI 1)),iM 6 27])))))) (cS [iM 52 0,iC 53 49 [t52,vI 13,vI 9],iO 54 (.bin .add 3 0 (vI 1) t53),iO 55 (.bin .mul 3 0 (vI 50) t54),iM 7 55] (cS [iM 56 0,iC 57 49 [t56,vI 14,vI 5],iO 58 (.bin .mul 3 0 (vI 10) t57),iM 8 58] (.seq (cS [iO 9 (.mov (vI 0))] (.block 2 (.loop (.seq (cS [iM 59 9,iM 60 0,iC 61 49 [t60,vI 15,vI 2],iO 62 (.bin .add 3 0 (vI 2) t61),iO 63 (.bin .lss 3 0 t59 t62)] (.cond t63 .skip (.exit 2))) (.seq (.block 3 (cS [iO 66 (.fa t3 3),iO 67 (.ld t66 none),iM 68 8,iO 69 (.lit 3 1 1 [y0] [⟨0,⟨1,t68⟩⟩]),iO 70 (.app 3 1 8 [y0] false t67 t69),iO 71 (.fa t3 3),iN (.st t71 t70 none)] (.items [iM 72 8,iM 73 7,iM 74 0,iM 75 9,iO 76 (.bin .add 3 0 (vI 16) t75),iC 77 49 [t74,t76,vI 3],iO 78 (.bin .add 3 0 (vI 1) t77),iO 79 (.bin .mul 3 0 t73 t78),iO 80 (.bin .add 3 0 t72 t79),iM 8 80]))) (.items [iM 64 9,iO 65 (.bin .add 3 0 t64 (vI 1)),iM 9 65])))))) (cS [iM 81 0,iC 82 49 [t81,vI 19,vI 30],iO 83 (.bin .mul 3 0 (vI 100) t82),iM 84 0,iC 85 49 [t84,vI 20,vI 40],iO 86 (.bin .mul 3 0 (vI 100) t85),iO 87 (.build [y0,y0] [⟨0,⟨1,t83⟩⟩,⟨1,⟨1,t86⟩⟩]),iO 88 (.fa t3 4),iN (.st t88 t87 (some 2))] (cS [iO 89 (.ld t3 (some 6)),iN (.st t2 t89 (some 6))] .ret)))))))))
theorem bw15_is : compF Tryz.prog 15 = some ⟨bw15, 90, [.cell 2 (some 6)]⟩ := by kernel_rfl
def bw16 : CC :=
  cS [iO 2 (.box 36 t0),iO 4 (.new 30 1 (.node (.slice none 0 0) .leaf .leaf))] (cS [iO 7 (.ld t2 (some 6)),iC 8 26 [t7],iO 9 (.bin .add 3 0 t8 (vI 1)),iO 10 (.mks 3 1 8 [y0] t9 t9),iM 5 10] (.seq (cS [iO 6 (.mov (vI 0))] (.block 0 (.loop (.seq (cS [iM 11 6,iM 12 5,iO 13 (.len t12),iO 14 (.bin .lss 3 0 t11 t13)] (.cond t14 .skip (.exit 0))) (.seq (.block 1 (.items [iM 17 5,iM 18 6,iM 19 1,iO 20 (.ia t17 t18 1),iN (.st t20 t19 none)])) (.items [iM 15 6,iO 16 (.bin .add 3 0 t15 (vI 1)),iM 6 16])))))) (cS [iO 21 (.ld t2 (some 6)),iM 22 5,iC 23 8 [t21,t22],iN (.st t4 t23 (some 1))] .ret)))
theorem bw16_is : compF Tryz.prog 16 = some ⟨bw16, 24, [.cell 4 (some 1)]⟩ := by kernel_rfl
def bw25 : CC :=
  cS [iO 3 (.box 36 t0),iO 6 (.mov (vI 0))] (cS [iM 7 1,iO 8 (.fa t3 3),iO 9 (.ld t8 none),iO 10 (.len t9),iO 11 (.bin .mul 3 0 t7 t10),iO 12 (.bin .add 3 0 (vI 1) t11),iM 13 2,iO 14 (.bin .add 3 0 t12 t13),iM 6 14] .ret)
theorem bw25_is : compF Tryz.prog 25 = some ⟨bw25, 15, [.tmp 6]⟩ := by kernel_rfl
def bw26 : CC :=
  cS [iO 1 (.box 36 t0),iO 2 (.mov (vI 0))] (cS [iO 3 (.fa t1 2),iO 4 (.ld t3 none),iO 5 (.len t4),iO 6 (.fa t1 3),iO 7 (.ld t6 none),iO 8 (.len t7),iO 9 (.bin .mul 3 0 t5 t8),iM 2 9] .ret)
theorem bw26_is : compF Tryz.prog 26 = some ⟨bw26, 10, [.tmp 2]⟩ := by kernel_rfl
def bw30 : CC :=
  cS [iO 1 (.box 36 t0),iO 2 (.mov (vI 0))] (cS [iO 7 (.fa t1 2),iO 8 (.ld t7 none),iO 9 (.fa t1 3),iO 10 (.ld t9 none),iC 11 64 [t8,t10],iM 6 11,iO 12 (.ext t6 0),iO 13 (.ext t6 1),iM 3 12,iM 4 13] (cS [iM 14 4,iO 15 (.bin .eql 49 0 t14 (vI 0)),iM 16 15,⟨some ⟨16,true⟩,some 17,.fa t1 0⟩,⟨some ⟨16,true⟩,some 18,.ld t17 none⟩,⟨some ⟨16,true⟩,some 19,.call (vF 65) [t18]⟩,iO 20 (.pick t16 t19 vf),iM 21 20,⟨some ⟨21,true⟩,some 22,.fa t1 1⟩,⟨some ⟨21,true⟩,some 23,.ld t22 none⟩,⟨some ⟨21,true⟩,some 24,.call (vF 65) [t23]⟩,iO 25 (.pick t21 t24 vf),iM 26 25,⟨some ⟨26,true⟩,some 27,.fa t1 4⟩,⟨some ⟨26,true⟩,some 28,.fa t27 0⟩,⟨some ⟨26,true⟩,some 29,.ld t28 none⟩,⟨some ⟨26,true⟩,some 30,.call (vF 66) [t29,vI 0,vI 100000]⟩,iO 31 (.pick t26 t30 vf),iM 32 31,⟨some ⟨32,true⟩,some 33,.fa t1 4⟩,⟨some ⟨32,true⟩,some 34,.fa t33 1⟩,⟨some ⟨32,true⟩,some 35,.ld t34 none⟩,⟨some ⟨32,true⟩,some 36,.call (vF 66) [t35,vI 0,vI 100000]⟩,iO 37 (.pick t32 t36 vf),iM 5 37] (.seq (cS [iM 38 5,iO 39 (.un .not t38)] (.cond t39 (cS [iO 2 (.mov (vI 30))] .ret) .skip)) (cS [iO 2 (.mov (vI 0))] .ret))))
theorem bw30_is : compF Tryz.prog 30 = some ⟨bw30, 40, [.tmp 2]⟩ := by kernel_rfl
def bw31 : CC :=
  cS [iO 2 (.box 36 t0),iO 3 (.box 30 t1),iO 4 (.mov vf)] (.seq (cS [iO 8 (.fa t3 0),iO 9 (.ld t8 none),iO 10 (.len t9),iO 11 (.fa t2 2),iO 12 (.ld t11 none),iO 13 (.len t12),iO 14 (.bin .neq 3 0 t10 t13)] (.cond t14 (cS [iO 4 (.mov vf)] .ret) .skip)) (.seq (cS [iO 15 (.fa t3 0),iO 16 (.ld t15 none),iO 17 (.len t16),iO 18 (.mov (vI 0))] (.block 0 (.loop (cS [iO 19 (.bin .lss 3 0 t18 t17)] (.seq (.cond t19 .skip (.exit 0)) (.seq (.block 1 (cS [iO 20 (.ia t16 t18 1),iO 21 (.ld t20 none),iM 6 21] (cS [iO 7 (.mov (vF 67))] (cS [iM 22 6,iO 23 (.len t22),iO 24 (.fa t2 3),iO 25 (.ld t24 none),iO 26 (.len t25),iO 27 (.bin .neq 3 0 t23 t26),iM 28 27,⟨some ⟨28,false⟩,some 29,.mov t6⟩,⟨some ⟨28,false⟩,some 30,.mov t7⟩,⟨some ⟨28,false⟩,some 31,.call (vF 68) [t29,t30]⟩,iO 32 (.pick t28 vt t31)] (.cond t32 (cS [iO 4 (.mov vf)] .ret) .skip))))) (.items [iO 33 (.bin .add 3 0 t18 (vI 1)),iM 18 33]))))))) (cS [iO 4 (.mov vt)] .ret)))
theorem bw31_is : compF Tryz.prog 31 = some ⟨bw31, 34, [.tmp 4]⟩ := by kernel_rfl
def bw32 : CC :=
  cS [iO 2 (.box 36 t0),iO 3 (.box 47 t1),iO 4 (.mov vn),iO 5 (.mov (vI 0)),iO 6 (.mov (vI 0))] (cS [iO 16 (.fa t3 0),iO 17 (.ld t16 none),iC 15 69 [],iN (.again t16 none 17),iO 18 (.look t15 t17 .nilFunc true),iM 14 18,iO 19 (.ext t14 0),iO 20 (.ext t14 1),iM 7 19,iM 8 20] (.seq (cS [iM 21 8,iO 22 (.un .not t21),iM 23 22,⟨some ⟨23,false⟩,some 24,.ld t2 (some 6)⟩,⟨some ⟨23,false⟩,some 25,.fa t3 1⟩,⟨some ⟨23,false⟩,some 26,.ld t25 none⟩,⟨some ⟨23,false⟩,some 27,.fa t3 2⟩,⟨some ⟨23,false⟩,some 28,.ld t27 none⟩,⟨some ⟨23,false⟩,some 29,.call (vF 70) [t24,t26,t28]⟩,⟨some ⟨23,false⟩,some 30,.un .not t29⟩,iO 31 (.pick t23 vt t30)] (.cond t31 (cS [iO 4 (.mov vn),iO 5 (.mov (vI 0)),iO 6 (.mov (vI 33))] .ret) .skip)) (cS [iM 33 7,iO 34 (.ld t2 (some 6)),iO 35 (.ld t3 (some 3)),iO 36 (.build [y0,y0,.slice none 0 0,.slice none 0 0,y0,y0,y0,y0,y0] [⟨0,⟨6,t34⟩⟩,⟨6,⟨3,t35⟩⟩]),iO 37 (.call t33 [t36]),iM 32 37,iO 38 (.ext t32 0),iO 39 (.ext t32 1),iO 9 (.new 138 3 (.node (.slice none 0 0) (.node (.slice none 0 0) .leaf .leaf) (.node y0 .leaf .leaf))),iN (.st t9 t38 (some 3)),iM 10 39] (.seq (cS [iM 40 10,iO 41 (.un .not t40)] (.cond t41 (cS [iO 4 (.mov vn),iO 5 (.mov (vI 0)),iO 6 (.mov (vI 33))] .ret) .skip)) (cS [iO 42 (.lit 3 1 1 [y0] [⟨0,⟨1,vI 0⟩⟩]),iO 11 (.new 22 1 (.node (.slice none 0 0) .leaf .leaf)),iN (.st t11 t42 none)] (.seq (cS [iO 43 (.ld t2 (some 6)),iC 44 71 [t43]] (.block 0 (.range t44 [45] (.items [iO 12 (.new 146 3 (.node y0 (.node y0 .leaf .leaf) (.node y0 .leaf .leaf))),iN (.st t12 t45 (some 3))]) (.block 1 (cS [iO 13 (.mov (vI 0))] (.seq (cS [iO 46 (.fa t12 0),iO 47 (.ld t46 none),iO 48 (.fa t9 0),iO 49 (.ld t48 none),iO 50 (.len t49),iO 51 (.bin .lss 3 0 t47 t50),iM 52 51,⟨some ⟨52,true⟩,some 53,.fa t12 1⟩,⟨some ⟨52,true⟩,some 54,.ld t53 none⟩,⟨some ⟨52,true⟩,some 55,.fa t9 1⟩,⟨some ⟨52,true⟩,some 56,.ld t55 none⟩,⟨some ⟨52,true⟩,some 57,.len t56⟩,⟨some ⟨52,true⟩,some 58,.bin .lss 3 0 t54 t57⟩,iO 59 (.pick t52 t58 vf)] (.cond t59 (.items [iO 60 (.fa t9 0),iO 61 (.ld t60 none),iO 62 (.fa t12 0),iO 63 (.ld t62 none),iO 64 (.ia t61 t63 1),iO 65 (.ld t64 none),iO 66 (.fa t9 1),iO 67 (.ld t66 none),iO 68 (.fa t12 1),iO 69 (.ld t68 none),iO 70 (.ia t67 t69 1),iO 71 (.ld t70 none),iO 72 (.bin .mul 3 0 t65 t71),iM 13 72]) .skip)) (.items [iO 73 (.ld t11 none),iM 74 13,iO 75 (.lit 3 1 1 [y0] [⟨0,⟨1,t74⟩⟩]),iO 76 (.app 3 1 8 [y0] false t73 t75),iN (.st t11 t76 none)]))))))) (cS [iO 77 (.ld t11 none),iO 78 (.fa t9 2),iO 79 (.ld t78 none),iM 4 77,iM 5 79,iO 6 (.mov (vI 0))] .ret)))))))
theorem bw32_is : compF Tryz.prog 32 = some ⟨bw32, 80, [.tmp 4,.tmp 5,.tmp 6]⟩ := by kernel_rfl
def bw33 : CC :=
  cS [iO 4 (.mov (vI 0)),iO 5 (.mov (vI 0))] (.seq (cS [iM 9 0,iO 10 (.len t9),iO 11 (.bin .gtr 3 0 t10 (vI 65)),iM 12 11,⟨some ⟨12,false⟩,some 13,.mov t0⟩,⟨some ⟨12,false⟩,some 14,.call (vF 72) [t13]⟩,⟨some ⟨12,false⟩,some 15,.un .not t14⟩,iO 16 (.pick t12 vt t15)] (.cond t16 (cS [iO 4 (.mov (vI 0)),iO 5 (.mov (vI 27))] .ret) .skip)) (.seq (cS [iM 17 1,iO 18 (.len t17),iM 19 0,iO 20 (.len t19),iO 21 (.bin .neq 3 0 t18 t20),iM 22 21,⟨some ⟨22,false⟩,some 23,.mov t1⟩,⟨some ⟨22,false⟩,some 24,.call (vF 73) [t23,vI 1280000]⟩,⟨some ⟨22,false⟩,some 25,.un .not t24⟩,iO 26 (.pick t22 vt t25)] (.cond t26 (cS [iO 4 (.mov (vI 0)),iO 5 (.mov (vI 25))] .ret) .skip)) (cS [iO 6 (.mov (vI 0))] (.seq (cS [iM 27 0,iO 28 (.len t27),iO 29 (.mov (vI 0))] (.block 0 (.loop (cS [iO 30 (.bin .lss 3 0 t29 t28)] (.seq (.cond t30 .skip (.exit 0)) (.seq (.block 1 (cS [iM 31 29,iO 32 (.ia t27 t29 1),iO 33 (.ld t32 none),iM 7 31,iM 8 33] (.items [iM 34 6,iM 35 8,iM 36 1,iM 37 7,iO 38 (.ia t36 t37 1),iO 39 (.ld t38 none),iO 40 (.bin .mul 3 0 t35 t39),iO 41 (.bin .add 3 0 t34 t40),iM 6 41]))) (.items [iO 42 (.bin .add 3 0 t29 (vI 1)),iM 29 42]))))))) (cS [iM 43 6,iM 4 43,iO 5 (.mov (vI 0))] .ret)))))
theorem bw33_is : compF Tryz.prog 33 = some ⟨bw33, 44, [.tmp 4,.tmp 5]⟩ := by kernel_rfl
def bw34 : CC :=
  cS [iO 2 (.box 36 t0),iO 3 (.box 30 t1),iO 4 (.mov vn)] (cS [iO 7 (.lit 3 1 1 [y0] [⟨0,⟨1,vI 0⟩⟩]),iO 5 (.new 22 1 (.node (.slice none 0 0) .leaf .leaf)),iN (.st t5 t7 none)] (.seq (cS [iO 8 (.ld t2 (some 6)),iC 9 71 [t8]] (.block 0 (.range t9 [10] (.items [iO 6 (.new 146 3 (.node y0 (.node y0 .leaf .leaf) (.node y0 .leaf .leaf))),iN (.st t6 t10 (some 3))]) (.block 1 (.items [iO 11 (.ld t5 none),iO 12 (.fa t3 0),iO 13 (.ld t12 none),iO 14 (.fa t6 0),iO 15 (.ld t14 none),iO 16 (.ia t13 t15 1),iO 17 (.ld t16 none),iO 18 (.fa t6 1),iO 19 (.ld t18 none),iO 20 (.ia t17 t19 1),iO 21 (.ld t20 none),iO 22 (.lit 3 1 1 [y0] [⟨0,⟨1,t21⟩⟩]),iO 23 (.app 3 1 8 [y0] false t11 t22),iN (.st t5 t23 none)]))))) (cS [iO 24 (.ld t5 none),iM 4 24] .ret)))
theorem bw34_is : compF Tryz.prog 34 = some ⟨bw34, 25, [.tmp 4]⟩ := by kernel_rfl
def bw35 : CC :=
  cS [iO 4 (.mov (vI 0))] (cS [iM 6 0,iM 7 1,iO 8 (.bin .quo 3 0 t6 t7),iM 5 8] (.seq (cS [iM 9 0,iM 10 1,iO 11 (.bin .rem 3 0 t9 t10),iO 12 (.bin .lss 3 0 t11 (vI 0))] (.cond t12 (.items [iM 13 5,iO 14 (.bin .sub 3 0 t13 (vI 1)),iM 5 14]) .skip)) (cS [iM 15 5,iM 4 15] .ret)))
theorem bw35_is : compF Tryz.prog 35 = some ⟨bw35, 16, [.tmp 4]⟩ := by kernel_rfl
def bw49 : CC :=
  cS [iO 6 (.mov (vI 0))] (.seq (cS [iM 7 0,iO 8 (.len t7),iO 9 (.bin .eql 3 0 t8 (vI 0))] (.cond t9 (cS [iO 6 (.mov (vI 0))] .ret) .skip)) (cS [iM 10 0,iM 11 1,iM 12 0,iO 13 (.len t12),iO 14 (.bin .rem 3 0 t11 t13),iO 15 (.ia t10 t14 1),iO 16 (.ld t15 none),iM 17 2,iC 18 9 [t16,t17],iM 6 18] .ret))
theorem bw49_is : compF Tryz.prog 49 = some ⟨bw49, 19, [.tmp 6]⟩ := by kernel_rfl
def bw64 : CC :=
  cS [iO 4 (.mov vn),iO 5 (.mov (vI 0))] (.seq (cS [iM 7 0,iM 8 1,iC 9 105 [t7,t8],iM 6 9] (cS [iM 10 6,iO 11 (.bin .neq 49 0 t10 (vI 0))] (.cond t11 (cS [iM 12 6,iO 4 (.mov vn),iM 5 12] .ret) .skip))) (cS [iM 13 0,iM 14 1,iC 15 106 [t13,t14],iM 4 15,iO 5 (.mov (vI 0))] .ret))
theorem bw64_is : compF Tryz.prog 64 = some ⟨bw64, 16, [.tmp 4,.tmp 5]⟩ := by kernel_rfl
def bw65 : CC :=
  cS [iO 2 (.mov vf)] (cS [iM 3 0,iC 4 66 [t3,vI 1,vI 99999],iM 2 4] .ret)
theorem bw65_is : compF Tryz.prog 65 = some ⟨bw65, 5, [.tmp 2]⟩ := by kernel_rfl
def bw66 : CC :=
  cS [iO 6 (.mov vf)] (cS [iM 7 1,iM 8 0,iO 9 (.bin .leq 3 0 t7 t8),iM 10 9,⟨some ⟨10,true⟩,some 11,.mov t0⟩,⟨some ⟨10,true⟩,some 12,.mov t2⟩,⟨some ⟨10,true⟩,some 13,.bin .leq 3 0 t11 t12⟩,iO 14 (.pick t10 t13 vf),iM 6 14] .ret)
theorem bw66_is : compF Tryz.prog 66 = some ⟨bw66, 15, [.tmp 6]⟩ := by kernel_rfl
def bw67 : CC :=
  cS [iO 2 (.mov vf)] (cS [iM 3 0,iC 4 66 [t3,vI 0,vI 20000],iO 5 (.un .not t4),iM 2 5] .ret)
theorem bw67_is : compF Tryz.prog 67 = some ⟨bw67, 6, [.tmp 2]⟩ := by kernel_rfl
def bw68 : CC :=
  cS [iO 4 (.mov vf)] (cS [iM 5 0,iM 6 1,iC 7 107 [t5,t6],iO 8 (.bin .geq 3 0 t7 (vI 0)),iM 4 8] .ret)
theorem bw68_is : compF Tryz.prog 68 = some ⟨bw68, 9, [.tmp 4]⟩ := by kernel_rfl
def bw69 : CC :=
  cS [iO 0 (.mov (.c (.map none)))] (cS [iO 1 .mkmap,iN (.ins t1 (vI 1) (vF 108)),iN (.ins t1 (vI 2) (vF 109)),iN (.ins t1 (vI 3) (vF 110)),iN (.ins t1 (vI 4) (vF 111)),iM 2 1,iM 0 2] .ret)
theorem bw69_is : compF Tryz.prog 69 = some ⟨bw69, 3, [.tmp 0]⟩ := by kernel_rfl
def bw70 : CC :=
  cS [iO 3 (.box 36 t0),iO 6 (.mov vf)] (cS [iM 7 1,iO 8 (.fa t3 2),iO 9 (.ld t8 none),iO 10 (.len t9),iO 11 (.bin .sub 3 0 t10 (vI 1)),iC 12 66 [t7,vI 0,t11],iM 13 12,⟨some ⟨13,true⟩,some 14,.mov t2⟩,⟨some ⟨13,true⟩,some 15,.fa t3 3⟩,⟨some ⟨13,true⟩,some 16,.ld t15 none⟩,⟨some ⟨13,true⟩,some 17,.len t16⟩,⟨some ⟨13,true⟩,some 18,.bin .sub 3 0 t17 (vI 1)⟩,⟨some ⟨13,true⟩,some 19,.call (vF 66) [t14,vI 0,t18]⟩,iO 20 (.pick t13 t19 vf),iM 6 20] .ret)
theorem bw70_is : compF Tryz.prog 70 = some ⟨bw70, 21, [.tmp 6]⟩ := by kernel_rfl
def bw71 : CC :=
  cS [iO 1 (.box 36 t0),iO 2 (.mov (.c .nilFunc))] (cS [iO 3 (.fn 112 [] [t1]),iM 2 3] .ret)
theorem bw71_is : compF Tryz.prog 71 = some ⟨bw71, 4, [.tmp 2]⟩ := by kernel_rfl
def bw72 : CC :=
  cS [iO 2 (.mov vf)] (cS [iO 3 (.mov (vI 3600000000000))] (.seq (cS [iM 6 0,iO 7 (.len t6),iO 8 (.mov (vI 0))] (.block 0 (.loop (cS [iO 9 (.bin .lss 3 0 t8 t7)] (.seq (.cond t9 .skip (.exit 0)) (.seq (.block 1 (cS [iO 10 (.ia t6 t8 1),iO 11 (.ld t10 none),iM 5 11] (.seq (cS [iM 12 5,iM 13 3,iO 14 (.un .neg t13),iM 15 3,iC 16 113 [t12,t14,t15],iO 17 (.un .not t16)] (.cond t17 (cS [iO 2 (.mov vf)] .ret) .skip)) (.items [iM 18 3,iM 19 5,iM 20 5,iO 21 (.un .neg t20),iO 22 (.bi .max ⟨[3,3]⟩ 3 [t19,t21]),iO 23 (.bin .sub 3 0 t18 t22),iM 3 23])))) (.items [iO 24 (.bin .add 3 0 t8 (vI 1)),iM 8 24]))))))) (cS [iO 2 (.mov vt)] .ret)))
theorem bw72_is : compF Tryz.prog 72 = some ⟨bw72, 25, [.tmp 2]⟩ := by kernel_rfl
def bw73 : CC :=
  cS [iO 4 (.mov vf)] (.seq (cS [iM 7 0,iO 8 (.len t7),iO 9 (.mov (vI 0))] (.block 0 (.loop (cS [iO 10 (.bin .lss 3 0 t9 t8)] (.seq (.cond t10 .skip (.exit 0)) (.seq (.block 1 (cS [iO 11 (.ia t7 t9 1),iO 12 (.ld t11 none),iM 6 12] (cS [iM 13 6,iM 14 1,iO 15 (.un .neg t14),iM 16 1,iC 17 113 [t13,t15,t16],iO 18 (.un .not t17)] (.cond t18 (cS [iO 4 (.mov vf)] .ret) .skip)))) (.items [iO 19 (.bin .add 3 0 t9 (vI 1)),iM 9 19]))))))) (cS [iO 4 (.mov vt)] .ret))
theorem bw73_is : compF Tryz.prog 73 = some ⟨bw73, 20, [.tmp 4]⟩ := by kernel_rfl
def bw105 : CC :=
  cS [iO 4 (.mov (vI 0))] (.seq (cS [iM 7 0,iC 8 136 [t7],iM 5 8] (cS [iM 9 5,iO 10 (.bin .neq 49 0 t9 (vI 0))] (.cond t10 (cS [iM 11 5,iM 4 11] .ret) .skip))) (.seq (cS [iM 12 1,iC 13 136 [t12],iM 6 13] (cS [iM 14 6,iO 15 (.bin .neq 49 0 t14 (vI 0))] (.cond t15 (cS [iM 16 6,iM 4 16] .ret) .skip))) (.seq (cS [iM 17 1,iO 18 (.len t17),iO 19 (.bin .gtr 3 0 t18 (vI 7)),iM 20 19,⟨some ⟨20,false⟩,some 21,.mov t1⟩,⟨some ⟨20,false⟩,some 22,.call (vF 137) [t21,vI 0,vI 15000]⟩,⟨some ⟨20,false⟩,some 23,.un .not t22⟩,iO 24 (.pick t20 vt t23)] (.cond t24 (cS [iO 4 (.mov (vI 12))] .ret) .skip)) (cS [iO 4 (.mov (vI 0))] .ret))))
theorem bw105_is : compF Tryz.prog 105 = some ⟨bw105, 25, [.tmp 4]⟩ := by kernel_rfl
def bw106 : CC :=
  cS [iO 4 (.mov vn)] (cS [iM 12 1,iC 13 138 [t12],iM 5 13] (cS [iM 14 0,iO 15 (.len t14),iO 16 (.mks 22 1 24 [.slice none 0 0] (vI 0) t15),iM 6 16] (.seq (cS [iM 17 0,iC 18 138 [t17],iO 19 (.len t18),iO 20 (.mov (vI 0))] (.block 0 (.loop (cS [iO 21 (.bin .lss 3 0 t20 t19)] (.seq (.cond t21 .skip (.exit 0)) (.seq (.block 1 (cS [iO 22 (.ia t18 t20 1),iO 23 (.ld t22 none),iM 8 23] (cS [iM 24 5,iO 25 (.len t24),iO 26 (.mks 3 1 8 [y0] (vI 0) t25),iM 9 26] (.seq (cS [iM 27 5,iO 28 (.len t27),iO 29 (.mov (vI 0))] (.block 2 (.loop (cS [iO 30 (.bin .lss 3 0 t29 t28)] (.seq (.cond t30 .skip (.exit 2)) (.seq (.block 3 (cS [iO 31 (.ia t27 t29 1),iO 32 (.ld t31 none),iM 11 32] (.items [iM 33 9,iM 34 8,iM 35 11,iO 36 (.bin .mul 3 0 t34 t35),iO 37 (.lit 3 1 1 [y0] [⟨0,⟨1,t36⟩⟩]),iO 38 (.app 3 1 8 [y0] false t33 t37),iM 9 38]))) (.items [iO 39 (.bin .add 3 0 t29 (vI 1)),iM 29 39]))))))) (.items [iM 40 6,iM 41 9,iO 42 (.lit 22 1 1 [.slice none 0 0] [⟨0,⟨1,t41⟩⟩]),iO 43 (.app 22 1 24 [.slice none 0 0] false t40 t42),iM 6 43]))))) (.items [iO 44 (.bin .add 3 0 t20 (vI 1)),iM 20 44]))))))) (cS [iM 45 6,iM 4 45] .ret))))
theorem bw106_is : compF Tryz.prog 106 = some ⟨bw106, 46, [.tmp 4]⟩ := by kernel_rfl
def bw107 : CC :=
  cS [iO 4 (.mov (vI 0))] (.seq (cS [iM 6 0,iO 7 (.len t6),iO 8 (.mov (vI 0))] (.block 0 (.loop (cS [iO 9 (.bin .lss 3 0 t8 t7)] (.seq (.cond t9 .skip (.exit 0)) (.seq (.block 1 (cS [iM 10 8,iM 5 10] (cS [iM 11 1,iM 12 0,iM 13 5,iO 14 (.ia t12 t13 1),iO 15 (.ld t14 none),iO 16 (.call t11 [t15])] (.cond t16 (cS [iM 17 5,iM 4 17] .ret) .skip)))) (.items [iO 18 (.bin .add 3 0 t8 (vI 1)),iM 8 18]))))))) (cS [iO 4 (.mov (vI (-1)))] .ret))
theorem bw107_is : compF Tryz.prog 107 = some ⟨bw107, 19, [.tmp 4]⟩ := by kernel_rfl
def bw108 : CC :=
  cS [iO 1 (.box 141 t0),iO 2 (.new 138 3 (.node (.slice none 0 0) (.node (.slice none 0 0) .leaf .leaf) (.node y0 .leaf .leaf))),iO 3 (.mov vf)] (.seq (cS [iO 4 (.fa t1 6),iO 5 (.fa t4 1),iO 6 (.ld t5 none),iO 7 (.bin .neq 3 0 t6 (vI 0)),iM 8 7,⟨some ⟨8,false⟩,some 9,.fa t1 6⟩,⟨some ⟨8,false⟩,some 10,.fa t9 2⟩,⟨some ⟨8,false⟩,some 11,.ld t10 none⟩,⟨some ⟨8,false⟩,some 12,.bin .lss 3 0 t11 (vI 1)⟩,iO 13 (.pick t8 vt t12)] (.cond t13 (cS [iO 14 (.build [.slice none 0 0,.slice none 0 0,y0] []),iN (.st t2 t14 (some 3)),iO 3 (.mov vf)] .ret) .skip)) (cS [iO 15 (.fa t1 0),iO 16 (.fa t15 2),iO 17 (.ld t16 none),iO 19 (.fa t1 0),iO 20 (.fa t19 3),iO 21 (.ld t20 none),iO 22 (.fa t1 6),iO 23 (.fa t22 2),iO 24 (.ld t23 none),iO 25 (.bin .add 3 0 t24 (vI 1)),iO 26 (.slc 3 1 t21 none (some t25) none),iC 18 139 [t17],iN (.againS 3 1 t21 none (some t25) none 26),iN (.again t23 none 24),iN (.again t20 none 21),iC 27 139 [t26],iO 28 (.build [.slice none 0 0,.slice none 0 0,y0] [⟨0,⟨1,t18⟩⟩,⟨1,⟨1,t27⟩⟩,⟨2,⟨1,vI 648000000⟩⟩]),iN (.st t2 t28 (some 3)),iO 3 (.mov vt)] .ret))
theorem bw108_is : compF Tryz.prog 108 = some ⟨bw108, 29, [.cell 2 (some 3),.tmp 3]⟩ := by kernel_rfl
def bw109 : CC :=
  cS [iO 1 (.box 141 t0),iO 2 (.new 138 3 (.node (.slice none 0 0) (.node (.slice none 0 0) .leaf .leaf) (.node y0 .leaf .leaf))),iO 3 (.mov vf)] (cS [iO 4 (.fa t1 0),iO 5 (.fa t4 2),iO 6 (.ld t5 none),iO 8 (.fa t1 6),iO 9 (.fa t8 2),iO 10 (.ld t9 none),iO 13 (.fa t1 6),iO 14 (.fa t13 1),iO 15 (.ld t14 none),iO 16 (.bin .eql 3 0 t15 (vI 0)),iC 7 139 [t6],iN (.again t14 none 15),iN (.again t9 none 10),iC 11 140 [t10],iN (.again t14 none 15),iO 12 (.build [.slice none 0 0,.slice none 0 0,y0] [⟨0,⟨1,t7⟩⟩,⟨1,⟨1,t11⟩⟩,⟨2,⟨1,vI 180000⟩⟩]),iN (.st t2 t12 (some 3)),iN (.again t14 none 15),iM 3 16] .ret)
theorem bw109_is : compF Tryz.prog 109 = some ⟨bw109, 17, [.cell 2 (some 3),.tmp 3]⟩ := by kernel_rfl
def bw110 : CC :=
  cS [iO 1 (.box 141 t0),iO 2 (.new 138 3 (.node (.slice none 0 0) (.node (.slice none 0 0) .leaf .leaf) (.node y0 .leaf .leaf))),iO 3 (.mov vf)] (cS [iO 4 (.fa t1 6),iO 5 (.fa t4 1),iO 6 (.ld t5 none),iO 8 (.fa t1 0),iO 9 (.fa t8 3),iO 10 (.ld t9 none),iO 13 (.fa t1 6),iO 14 (.fa t13 2),iO 15 (.ld t14 none),iO 16 (.bin .eql 3 0 t15 (vI 0)),iC 7 140 [t6],iN (.again t14 none 15),iN (.again t9 none 10),iC 11 139 [t10],iN (.again t14 none 15),iO 12 (.build [.slice none 0 0,.slice none 0 0,y0] [⟨0,⟨1,t7⟩⟩,⟨1,⟨1,t11⟩⟩,⟨2,⟨1,vI 180000⟩⟩]),iN (.st t2 t12 (some 3)),iN (.again t14 none 15),iM 3 16] .ret)
theorem bw110_is : compF Tryz.prog 110 = some ⟨bw110, 17, [.cell 2 (some 3),.tmp 3]⟩ := by kernel_rfl
def bw111 : CC :=
  cS [iO 1 (.box 141 t0),iO 2 (.new 138 3 (.node (.slice none 0 0) (.node (.slice none 0 0) .leaf .leaf) (.node y0 .leaf .leaf))),iO 3 (.mov vf)] (cS [iO 4 (.fa t1 6),iO 5 (.fa t4 1),iO 6 (.ld t5 none),iO 8 (.fa t1 6),iO 9 (.fa t8 2),iO 10 (.ld t9 none),iC 7 140 [t6],iN (.again t9 none 10),iC 11 140 [t10],iO 12 (.build [.slice none 0 0,.slice none 0 0,y0] [⟨0,⟨1,t7⟩⟩,⟨1,⟨1,t11⟩⟩,⟨2,⟨1,vI 1⟩⟩]),iN (.st t2 t12 (some 3)),iO 3 (.mov vt)] .ret)
theorem bw111_is : compF Tryz.prog 111 = some ⟨bw111, 13, [.cell 2 (some 3),.tmp 3]⟩ := by kernel_rfl
def bw112 : CC :=
  cS [iO 3 (.mov (vI 0))] (cS [iO 6 (.fa t1 2),iO 7 (.ld t6 none),iO 8 (.len t7),iO 9 (.mov (vI 0))] (.block 0 (.loop (cS [iO 10 (.bin .lss 3 0 t9 t8)] (.seq (.cond t10 .skip (.exit 0)) (.seq (.block 1 (cS [iM 11 9,iM 4 11] (cS [iO 12 (.fa t1 3),iO 13 (.ld t12 none),iO 14 (.len t13),iO 15 (.mov (vI 0))] (.block 2 (.loop (cS [iO 16 (.bin .lss 3 0 t15 t14)] (.seq (.cond t16 .skip (.exit 2)) (.seq (.block 3 (cS [iM 17 15,iM 5 17] (cS [iM 18 3,iO 19 (.bin .add 3 0 t18 (vI 1)),iM 3 19] (cS [iM 20 0,iM 21 4,iM 22 5,iM 23 3,iO 24 (.build [y0,y0,y0] [⟨0,⟨1,t21⟩⟩,⟨1,⟨1,t22⟩⟩,⟨2,⟨1,t23⟩⟩]),iO 25 (.call t20 [t24]),iO 26 (.un .not t25)] (.cond t26 .ret .skip))))) (.items [iO 27 (.bin .add 3 0 t15 (vI 1)),iM 15 27]))))))))) (.items [iO 28 (.bin .add 3 0 t9 (vI 1)),iM 9 28])))))))
theorem bw112_is : compF Tryz.prog 112 = some ⟨bw112, 29, []⟩ := by kernel_rfl
def bw113 : CC :=
  cS [iO 6 (.mov vf)] (cS [iM 7 1,iM 8 0,iO 9 (.bin .leq 3 0 t7 t8),iM 10 9,⟨some ⟨10,true⟩,some 11,.mov t0⟩,⟨some ⟨10,true⟩,some 12,.mov t2⟩,⟨some ⟨10,true⟩,some 13,.bin .leq 3 0 t11 t12⟩,iO 14 (.pick t10 t13 vf),iM 6 14] .ret)
theorem bw113_is : compF Tryz.prog 113 = some ⟨bw113, 15, [.tmp 6]⟩ := by kernel_rfl
def bw136 : CC :=
  cS [iO 2 (.mov (vI 0))] (.seq (cS [iM 4 0,iO 5 (.len t4),iO 6 (.bin .lss 3 0 t5 (vI 2)),iM 7 6,⟨some ⟨7,false⟩,some 8,.mov t0⟩,⟨some ⟨7,false⟩,some 9,.len t8⟩,⟨some ⟨7,false⟩,some 10,.bin .gtr 3 0 t9 (vI 9)⟩,iO 11 (.pick t7 vt t10),iM 12 11,⟨some ⟨12,false⟩,some 13,.mov t0⟩,⟨some ⟨12,false⟩,some 14,.call (vF 137) [t13,vI 0,vI 100000]⟩,⟨some ⟨12,false⟩,some 15,.un .not t14⟩,iO 16 (.pick t12 vt t15)] (.cond t16 (cS [iO 2 (.mov (vI 12))] .ret) .skip)) (.seq (cS [iM 17 0,iO 18 (.len t17),iO 19 (.bin .sub 3 0 t18 (vI 1)),iO 20 (.mov (vI 0))] (.block 0 (.loop (cS [iO 21 (.bin .lss 3 0 t20 t19)] (.seq (.cond t21 .skip (.exit 0)) (.seq (.block 1 (cS [iM 22 20,iM 3 22] (cS [iM 23 0,iM 24 3,iO 25 (.ia t23 t24 1),iO 26 (.ld t25 none),iM 27 0,iM 28 3,iO 29 (.bin .add 3 0 t28 (vI 1)),iO 30 (.ia t27 t29 1),iO 31 (.ld t30 none),iO 32 (.bin .geq 3 0 t26 t31)] (.cond t32 (cS [iO 2 (.mov (vI 12))] .ret) .skip)))) (.items [iO 33 (.bin .add 3 0 t20 (vI 1)),iM 20 33]))))))) (cS [iO 2 (.mov (vI 0))] .ret)))
theorem bw136_is : compF Tryz.prog 136 = some ⟨bw136, 34, [.tmp 2]⟩ := by kernel_rfl
def bw137 : CC :=
  cS [iO 6 (.mov vf)] (.seq (cS [iM 9 0,iO 10 (.len t9),iO 11 (.mov (vI 0))] (.block 0 (.loop (cS [iO 12 (.bin .lss 3 0 t11 t10)] (.seq (.cond t12 .skip (.exit 0)) (.seq (.block 1 (cS [iO 13 (.ia t9 t11 1),iO 14 (.ld t13 none),iM 8 14] (cS [iM 15 8,iM 16 1,iO 17 (.bin .lss 3 0 t15 t16),iM 18 17,⟨some ⟨18,false⟩,some 19,.mov t8⟩,⟨some ⟨18,false⟩,some 20,.mov t2⟩,⟨some ⟨18,false⟩,some 21,.bin .gtr 3 0 t19 t20⟩,iO 22 (.pick t18 vt t21)] (.cond t22 (cS [iO 6 (.mov vf)] .ret) .skip)))) (.items [iO 23 (.bin .add 3 0 t11 (vI 1)),iM 11 23]))))))) (cS [iO 6 (.mov vt)] .ret))
theorem bw137_is : compF Tryz.prog 137 = some ⟨bw137, 24, [.tmp 6]⟩ := by kernel_rfl
def bw138 : CC :=
  cS [iO 2 (.mov vn)] (cS [iM 4 0,iO 5 (.len t4),iO 6 (.mks 3 1 8 [y0] t5 t5),iO 7 (.build [.slice none 0 0,.slice none 0 0,y0] [⟨0,⟨1,t6⟩⟩]),iO 3 (.new 208 3 (.node (.slice none 0 0) (.node (.slice none 0 0) .leaf .leaf) (.node y0 .leaf .leaf))),iN (.st t3 t7 (some 3))] (cS [iM 8 0,iO 9 (.fn 156 [t3] []),iC 10 155 [t8,t9]] (cS [iO 11 (.fa t3 0),iO 12 (.ld t11 none),iM 2 12] .ret)))
theorem bw138_is : compF Tryz.prog 138 = some ⟨bw138, 13, [.tmp 2]⟩ := by kernel_rfl
def bw139 : CC :=
  cS [iO 2 (.mov vn)] (cS [iM 6 0,iC 7 157 [t6],iM 5 7,iO 8 (.ext t5 0),iO 9 (.ext t5 1),iM 3 8,iM 4 9] (cS [iM 10 3,iM 2 10] .ret))
theorem bw139_is : compF Tryz.prog 139 = some ⟨bw139, 11, [.tmp 2]⟩ := by kernel_rfl
def bw140 : CC :=
  cS [iO 2 (.mov vn)] (cS [iM 4 0,iO 5 (.bin .add 3 0 t4 (vI 1)),iO 6 (.mks 3 1 8 [y0] t5 t5),iM 3 6] (cS [iM 7 3,iM 8 0,iO 9 (.ia t7 t8 1),iN (.st t9 (vI 1) none)] (cS [iM 10 3,iM 2 10] .ret)))
theorem bw140_is : compF Tryz.prog 140 = some ⟨bw140, 11, [.tmp 2]⟩ := by kernel_rfl
def bw155 : CC :=
  cS [iM 6 0,iC 7 167 [t6],iO 8 (.len t7),iO 9 (.mov (vI 0))] (.block 0 (.loop (cS [iO 10 (.bin .lss 3 0 t9 t8)] (.seq (.cond t10 .skip (.exit 0)) (.seq (.block 1 (cS [iO 11 (.ia t7 t9 2),iO 12 (.ld t11 (some 2)),iO 5 (.new 198 2 (.node y0 (.node y0 .leaf .leaf) .leaf)),iN (.st t5 t12 (some 2))] (cS [iO 13 (.fa t5 1),iO 14 (.ld t13 none),iO 15 (.bin .eql 3 0 t14 (vI 1))] (.cond t15 (.items [iM 16 0,iO 17 (.fa t5 0),iO 18 (.ld t17 none),iM 19 1,iC 20 168 [t16,t18,t19]]) (.items [iM 21 0,iO 22 (.fa t5 0),iO 23 (.ld t22 none),iM 24 1,iC 25 169 [t21,t23,t24]]))))) (.items [iO 26 (.bin .add 3 0 t9 (vI 1)),iM 9 26]))))))
theorem bw155_is : compF Tryz.prog 155 = some ⟨bw155, 27, []⟩ := by kernel_rfl
def bw156 : CC :=
  .items [iM 6 0,iO 7 (.nilc t6),iO 8 (.fa t7 0),iO 9 (.ld t8 none),iM 10 1,iO 11 (.ia t9 t10 1),iO 12 (.ld t11 none),iM 13 2,iO 14 (.bin .add 3 0 t12 t13),iO 15 (.ia t9 t10 1),iN (.st t15 t14 none)]
theorem bw156_is : compF Tryz.prog 156 = some ⟨bw156, 16, []⟩ := by kernel_rfl
def bw157 : CC :=
  cS [iO 2 (.mov vn),iO 3 (.mov (vI 0))] (.seq (cS [iM 5 0,iC 6 136 [t5],iM 4 6] (cS [iM 7 4,iO 8 (.bin .neq 49 0 t7 (vI 0))] (.cond t8 (cS [iM 9 4,iO 2 (.mov vn),iM 3 9] .ret) .skip))) (cS [iM 10 0,iC 11 138 [t10],iM 2 11,iO 3 (.mov (vI 0))] .ret))
theorem bw157_is : compF Tryz.prog 157 = some ⟨bw157, 12, [.tmp 2,.tmp 3]⟩ := by kernel_rfl
def bw167 : CC :=
  cS [iO 2 (.mov vn)] (cS [iO 3 (.mov vn)] (.seq (cS [iO 4 (.mov (vI 0))] (.block 0 (.loop (.seq (cS [iM 6 4,iO 7 (.bin .add 3 0 t6 (vI 1)),iM 8 0,iO 9 (.len t8),iO 10 (.bin .lss 3 0 t7 t9)] (.cond t10 .skip (.exit 0))) (.block 1 (cS [iO 5 (.mov (vI 1))] (.seq (cS [iM 11 4,iO 12 (.bin .add 3 0 t11 (vI 2)),iM 13 0,iO 14 (.len t13),iO 15 (.bin .lss 3 0 t12 t14),iM 16 15,⟨some ⟨16,true⟩,some 17,.mov t0⟩,⟨some ⟨16,true⟩,some 18,.mov t4⟩,⟨some ⟨16,true⟩,some 19,.bin .add 3 0 t18 (vI 1)⟩,⟨some ⟨16,true⟩,some 20,.ia t17 t19 1⟩,⟨some ⟨16,true⟩,some 21,.ld t20 none⟩,⟨some ⟨16,true⟩,some 22,.mov t0⟩,⟨some ⟨16,true⟩,some 23,.mov t4⟩,⟨some ⟨16,true⟩,some 24,.ia t22 t23 1⟩,⟨some ⟨16,true⟩,some 25,.ld t24 none⟩,⟨some ⟨16,true⟩,some 26,.bin .sub 3 0 t21 t25⟩,⟨some ⟨16,true⟩,some 27,.mov t0⟩,⟨some ⟨16,true⟩,some 28,.mov t4⟩,⟨some ⟨16,true⟩,some 29,.bin .add 3 0 t28 (vI 2)⟩,⟨some ⟨16,true⟩,some 30,.ia t27 t29 1⟩,⟨some ⟨16,true⟩,some 31,.ld t30 none⟩,⟨some ⟨16,true⟩,some 32,.mov t0⟩,⟨some ⟨16,true⟩,some 33,.mov t4⟩,⟨some ⟨16,true⟩,some 34,.bin .add 3 0 t33 (vI 1)⟩,⟨some ⟨16,true⟩,some 35,.ia t32 t34 1⟩,⟨some ⟨16,true⟩,some 36,.ld t35 none⟩,⟨some ⟨16,true⟩,some 37,.bin .sub 3 0 t31 t36⟩,⟨some ⟨16,true⟩,some 38,.call (vF 183) [t26,t37]⟩,⟨some ⟨16,true⟩,some 39,.bin .neq 3 0 t38 (vI 0)⟩,iO 40 (.pick t16 t39 vf)] (.cond t40 (.items [iO 5 (.mov (vI 2))]) .skip)) (cS [iM 41 3,iM 42 4,iM 43 5,iO 44 (.build [y0,y0] [⟨0,⟨1,t42⟩⟩,⟨1,⟨1,t43⟩⟩]),iO 45 (.lit 198 1 2 [y0,y0] [⟨0,⟨2,t44⟩⟩]),iO 46 (.app 198 2 16 [y0,y0] false t41 t45),iM 3 46] (.items [iM 47 4,iM 48 5,iO 49 (.bin .add 3 0 t47 t48),iM 4 49]))))))))) (cS [iM 50 3,iM 2 50] .ret)))
theorem bw167_is : compF Tryz.prog 167 = some ⟨bw167, 51, [.tmp 2]⟩ := by kernel_rfl
def bw168 : CC :=
  cS [iM 7 0,iM 8 1,iO 9 (.bin .add 3 0 t8 (vI 1)),iO 10 (.ia t7 t9 1),iO 11 (.ld t10 none),iM 12 0,iM 13 1,iO 14 (.ia t12 t13 1),iO 15 (.ld t14 none),iO 16 (.bin .sub 3 0 t11 t15),iO 17 (.bin .mul 3 0 (vI 18) t16),iM 6 17] (cS [iM 18 2,iM 19 1,iM 20 6,iO 21 (.call t18 [t19,t20])] (.items [iM 22 2,iM 23 1,iO 24 (.bin .add 3 0 t23 (vI 1)),iM 25 6,iO 26 (.call t22 [t24,t25])]))
theorem bw168_is : compF Tryz.prog 168 = some ⟨bw168, 27, []⟩ := by kernel_rfl
def bw169 : CC :=
  cS [iM 12 0,iM 13 1,iO 14 (.bin .add 3 0 t13 (vI 1)),iO 15 (.ia t12 t14 1),iO 16 (.ld t15 none),iM 17 0,iM 18 1,iO 19 (.ia t17 t18 1),iO 20 (.ld t19 none),iO 21 (.bin .sub 3 0 t16 t20),iM 22 0,iM 23 1,iO 24 (.bin .add 3 0 t23 (vI 2)),iO 25 (.ia t22 t24 1),iO 26 (.ld t25 none),iM 27 0,iM 28 1,iO 29 (.bin .add 3 0 t28 (vI 1)),iO 30 (.ia t27 t29 1),iO 31 (.ld t30 none),iO 32 (.bin .sub 3 0 t26 t31),iM 6 21,iM 7 32] (cS [iM 33 6,iM 34 7,iC 35 183 [t33,t34],iM 8 35] (cS [iM 36 8,iO 37 (.bin .quo 3 0 (vI 6) t36),iM 38 8,iO 39 (.bin .add 3 0 (vI 1) t38),iO 40 (.bin .mul 3 0 t37 t39),iM 41 6,iM 42 7,iO 43 (.bi .min ⟨[3,3]⟩ 3 [t41,t42]),iO 44 (.bin .mul 3 0 t40 t43),iM 9 44] (cS [iM 45 9,iM 46 8,iO 47 (.bin .mul 3 0 t45 t46),iM 48 8,iO 49 (.bin .sub 3 0 (vI 2) t48),iO 50 (.bin .mul 3 0 t47 t49),iM 51 9,iM 52 8,iO 53 (.bin .mul 3 0 (vI 2) t52),iO 54 (.bin .sub 3 0 t53 (vI 1)),iO 55 (.bin .mul 3 0 t51 t54),iM 10 50,iM 11 55] (.seq (cS [iM 56 6,iM 57 7,iO 58 (.bin .gtr 3 0 t56 t57)] (.cond t58 (.items [iM 59 11,iM 60 10,iM 10 59,iM 11 60]) .skip)) (cS [iM 61 2,iM 62 1,iM 63 10,iO 64 (.call t61 [t62,t63])] (cS [iM 65 2,iM 66 1,iO 67 (.bin .add 3 0 t66 (vI 1)),iM 68 9,iM 69 8,iO 70 (.bin .add 3 0 (vI 1) t69),iO 71 (.bin .mul 3 0 t68 t70),iM 72 8,iO 73 (.bin .add 3 0 (vI 1) t72),iO 74 (.bin .mul 3 0 t71 t73),iO 75 (.call t65 [t67,t74])] (.items [iM 76 2,iM 77 1,iO 78 (.bin .add 3 0 t77 (vI 2)),iM 79 11,iO 80 (.call t76 [t78,t79])])))))))
theorem bw169_is : compF Tryz.prog 169 = some ⟨bw169, 81, []⟩ := by kernel_rfl
def bw183 : CC :=
  cS [iO 4 (.mov (vI 0))] (cS [iM 8 0,iM 9 1,iO 10 (.bi .min ⟨[3,3]⟩ 3 [t8,t9]),iM 11 0,iM 12 1,iO 13 (.bi .max ⟨[3,3]⟩ 3 [t11,t12]),iM 5 10,iM 6 13] (.seq (cS [iO 7 (.mov (vI 1))] (.block 0 (.loop (.seq (cS [iM 14 7,iO 15 (.bin .leq 3 0 t14 (vI 3))] (.cond t15 .skip (.exit 0))) (.seq (.block 1 (cS [iM 18 6,iM 19 7,iM 20 5,iO 21 (.bin .mul 3 0 t19 t20),iO 22 (.bin .eql 3 0 t18 t21)] (.cond t22 (cS [iM 23 7,iM 4 23] .ret) .skip))) (.items [iM 16 7,iO 17 (.bin .add 3 0 t16 (vI 1)),iM 7 17])))))) (cS [iO 4 (.mov (vI 0))] .ret)))
theorem bw183_is : compF Tryz.prog 183 = some ⟨bw183, 24, [.tmp 4]⟩ := by kernel_rfl
def tabw : BT (Option CF) :=
  (.node none (.node none (.node none (.node none (.node (some ⟨bw15, 90, [.cell 2 (some 6)]⟩) (.node (some ⟨bw31, 34, [.tmp 4]⟩) (.node none (.node none .leaf .leaf) .leaf) (.node none (.node none .leaf .leaf) .leaf)) (.node none (.node none (.node none .leaf .leaf) .leaf) (.node (some ⟨bw111, 13, [.cell 2 (some 3),.tmp 3]⟩) (.node none .leaf .leaf) .leaf))) (.node none (.node none (.node (some ⟨bw71, 4, [.tmp 2]⟩) (.node none .leaf .leaf) .leaf) (.node none (.node (some ⟨bw167, 51, [.tmp 2]⟩) .leaf .leaf) .leaf)) (.node none (.node none (.node none .leaf .leaf) .leaf) (.node none (.node (some ⟨bw183, 24, [.tmp 4]⟩) .leaf .leaf) .leaf)))) (.node (some ⟨bw11, 44, [.tmp 6,.tmp 7]⟩) (.node none (.node (some ⟨bw35, 16, [.tmp 4]⟩) (.node (some ⟨bw67, 6, [.tmp 2]⟩) (.node none .leaf .leaf) .leaf) (.node none (.node none .leaf .leaf) .leaf)) (.node none (.node none (.node none .leaf .leaf) .leaf) (.node none (.node none .leaf .leaf) .leaf))) (.node none (.node none (.node none (.node (some ⟨bw139, 11, [.tmp 2]⟩) .leaf .leaf) .leaf) (.node (some ⟨bw107, 19, [.tmp 4]⟩) (.node none .leaf .leaf) .leaf)) (.node none (.node none (.node (some ⟨bw155, 27, []⟩) .leaf .leaf) .leaf) (.node none .leaf .leaf))))) (.node none (.node (some ⟨bw9, 12, [.tmp 4]⟩) (.node none (.node (some ⟨bw33, 44, [.tmp 4,.tmp 5]⟩) (.node (some ⟨bw65, 5, [.tmp 2]⟩) (.node none .leaf .leaf) .leaf) (.node none (.node none .leaf .leaf) .leaf)) (.node (some ⟨bw49, 19, [.tmp 6]⟩) (.node none (.node none .leaf .leaf) .leaf) (.node (some ⟨bw113, 15, [.tmp 6]⟩) (.node none .leaf .leaf) .leaf))) (.node (some ⟨bw25, 15, [.tmp 6]⟩) (.node none (.node (some ⟨bw73, 20, [.tmp 4]⟩) (.node (some ⟨bw137, 24, [.tmp 6]⟩) .leaf .leaf) .leaf) (.node (some ⟨bw105, 25, [.tmp 4]⟩) (.node (some ⟨bw169, 81, []⟩) .leaf .leaf) .leaf)) (.node none (.node none (.node none .leaf .leaf) .leaf) (.node none .leaf .leaf)))) (.node none (.node none (.node none (.node (some ⟨bw69, 3, [.tmp 0]⟩) (.node none .leaf .leaf) .leaf) (.node none (.node none .leaf .leaf) .leaf)) (.node none (.node none (.node none .leaf .leaf) .leaf) (.node none (.node none .leaf .leaf) .leaf))) (.node none (.node none (.node none (.node none .leaf .leaf) .leaf) (.node (some ⟨bw109, 17, [.cell 2 (some 3),.tmp 3]⟩) (.node none .leaf .leaf) .leaf)) (.node none (.node none (.node (some ⟨bw157, 12, [.tmp 2,.tmp 3]⟩) .leaf .leaf) .leaf) (.node none .leaf .leaf)))))) (.node none (.node (some ⟨bw4, 141, [.tmp 6]⟩) (.node (some ⟨bw8, 40, [.cell 4 (some 1)]⟩) (.node (some ⟨bw16, 24, [.cell 4 (some 1)]⟩) (.node (some ⟨bw32, 80, [.tmp 4,.tmp 5,.tmp 6]⟩) (.node (some ⟨bw64, 16, [.tmp 4,.tmp 5]⟩) (.node none .leaf .leaf) .leaf) (.node none (.node none .leaf .leaf) .leaf)) (.node none (.node none (.node none .leaf .leaf) .leaf) (.node (some ⟨bw112, 29, []⟩) (.node none .leaf .leaf) .leaf))) (.node none (.node none (.node (some ⟨bw72, 25, [.tmp 2]⟩) (.node (some ⟨bw136, 34, [.tmp 2]⟩) .leaf .leaf) .leaf) (.node none (.node (some ⟨bw168, 27, []⟩) .leaf .leaf) .leaf)) (.node none (.node none (.node none .leaf .leaf) .leaf) (.node none .leaf .leaf)))) (.node none (.node none (.node none (.node (some ⟨bw68, 9, [.tmp 4]⟩) (.node none .leaf .leaf) .leaf) (.node none (.node none .leaf .leaf) .leaf)) (.node none (.node none (.node none .leaf .leaf) .leaf) (.node none (.node none .leaf .leaf) .leaf))) (.node none (.node none (.node none (.node (some ⟨bw140, 11, [.tmp 2]⟩) .leaf .leaf) .leaf) (.node (some ⟨bw108, 29, [.cell 2 (some 3),.tmp 3]⟩) (.node none .leaf .leaf) .leaf)) (.node none (.node none (.node (some ⟨bw156, 16, []⟩) .leaf .leaf) .leaf) (.node none .leaf .leaf))))) (.node none (.node none (.node none (.node (some ⟨bw34, 25, [.tmp 4]⟩) (.node (some ⟨bw66, 15, [.tmp 6]⟩) (.node none .leaf .leaf) .leaf) (.node none (.node none .leaf .leaf) .leaf)) (.node none (.node none (.node none .leaf .leaf) .leaf) (.node none (.node none .leaf .leaf) .leaf))) (.node (some ⟨bw26, 10, [.tmp 2]⟩) (.node none (.node none (.node (some ⟨bw138, 13, [.tmp 2]⟩) .leaf .leaf) .leaf) (.node (some ⟨bw106, 46, [.tmp 4]⟩) (.node none .leaf .leaf) .leaf)) (.node none (.node none (.node none .leaf .leaf) .leaf) (.node none .leaf .leaf)))) (.node none (.node none (.node none (.node (some ⟨bw70, 21, [.tmp 6]⟩) (.node none .leaf .leaf) .leaf) (.node none (.node none .leaf .leaf) .leaf)) (.node none (.node none (.node none .leaf .leaf) .leaf) (.node none (.node none .leaf .leaf) .leaf))) (.node (some ⟨bw30, 40, [.tmp 2]⟩) (.node none (.node none (.node none .leaf .leaf) .leaf) (.node (some ⟨bw110, 17, [.cell 2 (some 3),.tmp 3]⟩) (.node none .leaf .leaf) .leaf)) (.node none (.node none (.node none .leaf .leaf) .leaf) (.node none .leaf .leaf)))))))
end
theorem tabw_holds : Holds Tryz.prog tabw 0 1 := by
  unfold tabw
  exact ⟨.inl rfl,⟨.inl rfl,⟨.inl rfl,⟨.inl rfl,⟨.inr bw15_is,⟨.inr bw31_is,⟨.inl rfl,⟨.inl rfl,trivial,trivial⟩,trivial⟩,⟨.inl rfl,⟨.inl rfl,trivial,trivial⟩,trivial⟩⟩,⟨.inl rfl,⟨.inl rfl,⟨.inl rfl,trivial,trivial⟩,trivial⟩,⟨.inr bw111_is,⟨.inl rfl,trivial,trivial⟩,trivial⟩⟩⟩,⟨.inl rfl,⟨.inl rfl,⟨.inr bw71_is,⟨.inl rfl,trivial,trivial⟩,trivial⟩,⟨.inl rfl,⟨.inr bw167_is,trivial,trivial⟩,trivial⟩⟩,⟨.inl rfl,⟨.inl rfl,⟨.inl rfl,trivial,trivial⟩,trivial⟩,⟨.inl rfl,⟨.inr bw183_is,trivial,trivial⟩,trivial⟩⟩⟩⟩,⟨.inr bw11_is,⟨.inl rfl,⟨.inr bw35_is,⟨.inr bw67_is,⟨.inl rfl,trivial,trivial⟩,trivial⟩,⟨.inl rfl,⟨.inl rfl,trivial,trivial⟩,trivial⟩⟩,⟨.inl rfl,⟨.inl rfl,⟨.inl rfl,trivial,trivial⟩,trivial⟩,⟨.inl rfl,⟨.inl rfl,trivial,trivial⟩,trivial⟩⟩⟩,⟨.inl rfl,⟨.inl rfl,⟨.inl rfl,⟨.inr bw139_is,trivial,trivial⟩,trivial⟩,⟨.inr bw107_is,⟨.inl rfl,trivial,trivial⟩,trivial⟩⟩,⟨.inl rfl,⟨.inl rfl,⟨.inr bw155_is,trivial,trivial⟩,trivial⟩,⟨.inl rfl,trivial,trivial⟩⟩⟩⟩⟩,⟨.inl rfl,⟨.inr bw9_is,⟨.inl rfl,⟨.inr bw33_is,⟨.inr bw65_is,⟨.inl rfl,trivial,trivial⟩,trivial⟩,⟨.inl rfl,⟨.inl rfl,trivial,trivial⟩,trivial⟩⟩,⟨.inr bw49_is,⟨.inl rfl,⟨.inl rfl,trivial,trivial⟩,trivial⟩,⟨.inr bw113_is,⟨.inl rfl,trivial,trivial⟩,trivial⟩⟩⟩,⟨.inr bw25_is,⟨.inl rfl,⟨.inr bw73_is,⟨.inr bw137_is,trivial,trivial⟩,trivial⟩,⟨.inr bw105_is,⟨.inr bw169_is,trivial,trivial⟩,trivial⟩⟩,⟨.inl rfl,⟨.inl rfl,⟨.inl rfl,trivial,trivial⟩,trivial⟩,⟨.inl rfl,trivial,trivial⟩⟩⟩⟩,⟨.inl rfl,⟨.inl rfl,⟨.inl rfl,⟨.inr bw69_is,⟨.inl rfl,trivial,trivial⟩,trivial⟩,⟨.inl rfl,⟨.inl rfl,trivial,trivial⟩,trivial⟩⟩,⟨.inl rfl,⟨.inl rfl,⟨.inl rfl,trivial,trivial⟩,trivial⟩,⟨.inl rfl,⟨.inl rfl,trivial,trivial⟩,trivial⟩⟩⟩,⟨.inl rfl,⟨.inl rfl,⟨.inl rfl,⟨.inl rfl,trivial,trivial⟩,trivial⟩,⟨.inr bw109_is,⟨.inl rfl,trivial,trivial⟩,trivial⟩⟩,⟨.inl rfl,⟨.inl rfl,⟨.inr bw157_is,trivial,trivial⟩,trivial⟩,⟨.inl rfl,trivial,trivial⟩⟩⟩⟩⟩⟩,⟨.inl rfl,⟨.inr bw4_is,⟨.inr bw8_is,⟨.inr bw16_is,⟨.inr bw32_is,⟨.inr bw64_is,⟨.inl rfl,trivial,trivial⟩,trivial⟩,⟨.inl rfl,⟨.inl rfl,trivial,trivial⟩,trivial⟩⟩,⟨.inl rfl,⟨.inl rfl,⟨.inl rfl,trivial,trivial⟩,trivial⟩,⟨.inr bw112_is,⟨.inl rfl,trivial,trivial⟩,trivial⟩⟩⟩,⟨.inl rfl,⟨.inl rfl,⟨.inr bw72_is,⟨.inr bw136_is,trivial,trivial⟩,trivial⟩,⟨.inl rfl,⟨.inr bw168_is,trivial,trivial⟩,trivial⟩⟩,⟨.inl rfl,⟨.inl rfl,⟨.inl rfl,trivial,trivial⟩,trivial⟩,⟨.inl rfl,trivial,trivial⟩⟩⟩⟩,⟨.inl rfl,⟨.inl rfl,⟨.inl rfl,⟨.inr bw68_is,⟨.inl rfl,trivial,trivial⟩,trivial⟩,⟨.inl rfl,⟨.inl rfl,trivial,trivial⟩,trivial⟩⟩,⟨.inl rfl,⟨.inl rfl,⟨.inl rfl,trivial,trivial⟩,trivial⟩,⟨.inl rfl,⟨.inl rfl,trivial,trivial⟩,trivial⟩⟩⟩,⟨.inl rfl,⟨.inl rfl,⟨.inl rfl,⟨.inr bw140_is,trivial,trivial⟩,trivial⟩,⟨.inr bw108_is,⟨.inl rfl,trivial,trivial⟩,trivial⟩⟩,⟨.inl rfl,⟨.inl rfl,⟨.inr bw156_is,trivial,trivial⟩,trivial⟩,⟨.inl rfl,trivial,trivial⟩⟩⟩⟩⟩,⟨.inl rfl,⟨.inl rfl,⟨.inl rfl,⟨.inr bw34_is,⟨.inr bw66_is,⟨.inl rfl,trivial,trivial⟩,trivial⟩,⟨.inl rfl,⟨.inl rfl,trivial,trivial⟩,trivial⟩⟩,⟨.inl rfl,⟨.inl rfl,⟨.inl rfl,trivial,trivial⟩,trivial⟩,⟨.inl rfl,⟨.inl rfl,trivial,trivial⟩,trivial⟩⟩⟩,⟨.inr bw26_is,⟨.inl rfl,⟨.inl rfl,⟨.inr bw138_is,trivial,trivial⟩,trivial⟩,⟨.inr bw106_is,⟨.inl rfl,trivial,trivial⟩,trivial⟩⟩,⟨.inl rfl,⟨.inl rfl,⟨.inl rfl,trivial,trivial⟩,trivial⟩,⟨.inl rfl,trivial,trivial⟩⟩⟩⟩,⟨.inl rfl,⟨.inl rfl,⟨.inl rfl,⟨.inr bw70_is,⟨.inl rfl,trivial,trivial⟩,trivial⟩,⟨.inl rfl,⟨.inl rfl,trivial,trivial⟩,trivial⟩⟩,⟨.inl rfl,⟨.inl rfl,⟨.inl rfl,trivial,trivial⟩,trivial⟩,⟨.inl rfl,⟨.inl rfl,trivial,trivial⟩,trivial⟩⟩⟩,⟨.inr bw30_is,⟨.inl rfl,⟨.inl rfl,⟨.inl rfl,trivial,trivial⟩,trivial⟩,⟨.inr bw110_is,⟨.inl rfl,trivial,trivial⟩,trivial⟩⟩,⟨.inl rfl,⟨.inl rfl,⟨.inl rfl,trivial,trivial⟩,trivial⟩,⟨.inl rfl,trivial,trivial⟩⟩⟩⟩⟩⟩⟩
theorem bw4_at (k : CF → Bool) (h : k ⟨bw4, 141, [.tmp 6]⟩ = true) : tabK tabw 4 k = true := by
  have e : tabK tabw 4 k = k ⟨bw4, 141, [.tmp 6]⟩ := by kernel_rfl
  rw [e]; exact h
theorem bw8_at (k : CF → Bool) (h : k ⟨bw8, 40, [.cell 4 (some 1)]⟩ = true) : tabK tabw 8 k = true := by
  have e : tabK tabw 8 k = k ⟨bw8, 40, [.cell 4 (some 1)]⟩ := by kernel_rfl
  rw [e]; exact h
theorem bw9_at (k : CF → Bool) (h : k ⟨bw9, 12, [.tmp 4]⟩ = true) : tabK tabw 9 k = true := by
  have e : tabK tabw 9 k = k ⟨bw9, 12, [.tmp 4]⟩ := by kernel_rfl
  rw [e]; exact h
theorem bw11_at (k : CF → Bool) (h : k ⟨bw11, 44, [.tmp 6,.tmp 7]⟩ = true) : tabK tabw 11 k = true := by
  have e : tabK tabw 11 k = k ⟨bw11, 44, [.tmp 6,.tmp 7]⟩ := by kernel_rfl
  rw [e]; exact h
theorem bw15_at (k : CF → Bool) (h : k ⟨bw15, 90, [.cell 2 (some 6)]⟩ = true) : tabK tabw 15 k = true := by
  have e : tabK tabw 15 k = k ⟨bw15, 90, [.cell 2 (some 6)]⟩ := by kernel_rfl
  rw [e]; exact h
theorem bw16_at (k : CF → Bool) (h : k ⟨bw16, 24, [.cell 4 (some 1)]⟩ = true) : tabK tabw 16 k = true := by
  have e : tabK tabw 16 k = k ⟨bw16, 24, [.cell 4 (some 1)]⟩ := by kernel_rfl
  rw [e]; exact h
theorem bw25_at (k : CF → Bool) (h : k ⟨bw25, 15, [.tmp 6]⟩ = true) : tabK tabw 25 k = true := by
  have e : tabK tabw 25 k = k ⟨bw25, 15, [.tmp 6]⟩ := by kernel_rfl
  rw [e]; exact h
theorem bw26_at (k : CF → Bool) (h : k ⟨bw26, 10, [.tmp 2]⟩ = true) : tabK tabw 26 k = true := by
  have e : tabK tabw 26 k = k ⟨bw26, 10, [.tmp 2]⟩ := by kernel_rfl
  rw [e]; exact h
theorem bw30_at (k : CF → Bool) (h : k ⟨bw30, 40, [.tmp 2]⟩ = true) : tabK tabw 30 k = true := by
  have e : tabK tabw 30 k = k ⟨bw30, 40, [.tmp 2]⟩ := by kernel_rfl
  rw [e]; exact h
theorem bw31_at (k : CF → Bool) (h : k ⟨bw31, 34, [.tmp 4]⟩ = true) : tabK tabw 31 k = true := by
  have e : tabK tabw 31 k = k ⟨bw31, 34, [.tmp 4]⟩ := by kernel_rfl
  rw [e]; exact h
theorem bw32_at (k : CF → Bool) (h : k ⟨bw32, 80, [.tmp 4,.tmp 5,.tmp 6]⟩ = true) : tabK tabw 32 k = true := by
  have e : tabK tabw 32 k = k ⟨bw32, 80, [.tmp 4,.tmp 5,.tmp 6]⟩ := by kernel_rfl
  rw [e]; exact h
theorem bw33_at (k : CF → Bool) (h : k ⟨bw33, 44, [.tmp 4,.tmp 5]⟩ = true) : tabK tabw 33 k = true := by
  have e : tabK tabw 33 k = k ⟨bw33, 44, [.tmp 4,.tmp 5]⟩ := by kernel_rfl
  rw [e]; exact h
theorem bw34_at (k : CF → Bool) (h : k ⟨bw34, 25, [.tmp 4]⟩ = true) : tabK tabw 34 k = true := by
  have e : tabK tabw 34 k = k ⟨bw34, 25, [.tmp 4]⟩ := by kernel_rfl
  rw [e]; exact h
theorem bw35_at (k : CF → Bool) (h : k ⟨bw35, 16, [.tmp 4]⟩ = true) : tabK tabw 35 k = true := by
  have e : tabK tabw 35 k = k ⟨bw35, 16, [.tmp 4]⟩ := by kernel_rfl
  rw [e]; exact h
theorem bw49_at (k : CF → Bool) (h : k ⟨bw49, 19, [.tmp 6]⟩ = true) : tabK tabw 49 k = true := by
  have e : tabK tabw 49 k = k ⟨bw49, 19, [.tmp 6]⟩ := by kernel_rfl
  rw [e]; exact h
theorem bw64_at (k : CF → Bool) (h : k ⟨bw64, 16, [.tmp 4,.tmp 5]⟩ = true) : tabK tabw 64 k = true := by
  have e : tabK tabw 64 k = k ⟨bw64, 16, [.tmp 4,.tmp 5]⟩ := by kernel_rfl
  rw [e]; exact h
theorem bw65_at (k : CF → Bool) (h : k ⟨bw65, 5, [.tmp 2]⟩ = true) : tabK tabw 65 k = true := by
  have e : tabK tabw 65 k = k ⟨bw65, 5, [.tmp 2]⟩ := by kernel_rfl
  rw [e]; exact h
theorem bw66_at (k : CF → Bool) (h : k ⟨bw66, 15, [.tmp 6]⟩ = true) : tabK tabw 66 k = true := by
  have e : tabK tabw 66 k = k ⟨bw66, 15, [.tmp 6]⟩ := by kernel_rfl
  rw [e]; exact h
theorem bw67_at (k : CF → Bool) (h : k ⟨bw67, 6, [.tmp 2]⟩ = true) : tabK tabw 67 k = true := by
  have e : tabK tabw 67 k = k ⟨bw67, 6, [.tmp 2]⟩ := by kernel_rfl
  rw [e]; exact h
theorem bw68_at (k : CF → Bool) (h : k ⟨bw68, 9, [.tmp 4]⟩ = true) : tabK tabw 68 k = true := by
  have e : tabK tabw 68 k = k ⟨bw68, 9, [.tmp 4]⟩ := by kernel_rfl
  rw [e]; exact h
theorem bw69_at (k : CF → Bool) (h : k ⟨bw69, 3, [.tmp 0]⟩ = true) : tabK tabw 69 k = true := by
  have e : tabK tabw 69 k = k ⟨bw69, 3, [.tmp 0]⟩ := by kernel_rfl
  rw [e]; exact h
theorem bw70_at (k : CF → Bool) (h : k ⟨bw70, 21, [.tmp 6]⟩ = true) : tabK tabw 70 k = true := by
  have e : tabK tabw 70 k = k ⟨bw70, 21, [.tmp 6]⟩ := by kernel_rfl
  rw [e]; exact h
theorem bw71_at (k : CF → Bool) (h : k ⟨bw71, 4, [.tmp 2]⟩ = true) : tabK tabw 71 k = true := by
  have e : tabK tabw 71 k = k ⟨bw71, 4, [.tmp 2]⟩ := by kernel_rfl
  rw [e]; exact h
theorem bw72_at (k : CF → Bool) (h : k ⟨bw72, 25, [.tmp 2]⟩ = true) : tabK tabw 72 k = true := by
  have e : tabK tabw 72 k = k ⟨bw72, 25, [.tmp 2]⟩ := by kernel_rfl
  rw [e]; exact h
theorem bw73_at (k : CF → Bool) (h : k ⟨bw73, 20, [.tmp 4]⟩ = true) : tabK tabw 73 k = true := by
  have e : tabK tabw 73 k = k ⟨bw73, 20, [.tmp 4]⟩ := by kernel_rfl
  rw [e]; exact h
theorem bw105_at (k : CF → Bool) (h : k ⟨bw105, 25, [.tmp 4]⟩ = true) : tabK tabw 105 k = true := by
  have e : tabK tabw 105 k = k ⟨bw105, 25, [.tmp 4]⟩ := by kernel_rfl
  rw [e]; exact h
theorem bw106_at (k : CF → Bool) (h : k ⟨bw106, 46, [.tmp 4]⟩ = true) : tabK tabw 106 k = true := by
  have e : tabK tabw 106 k = k ⟨bw106, 46, [.tmp 4]⟩ := by kernel_rfl
  rw [e]; exact h
theorem bw107_at (k : CF → Bool) (h : k ⟨bw107, 19, [.tmp 4]⟩ = true) : tabK tabw 107 k = true := by
  have e : tabK tabw 107 k = k ⟨bw107, 19, [.tmp 4]⟩ := by kernel_rfl
  rw [e]; exact h
theorem bw108_at (k : CF → Bool) (h : k ⟨bw108, 29, [.cell 2 (some 3),.tmp 3]⟩ = true) : tabK tabw 108 k = true := by
  have e : tabK tabw 108 k = k ⟨bw108, 29, [.cell 2 (some 3),.tmp 3]⟩ := by kernel_rfl
  rw [e]; exact h
theorem bw109_at (k : CF → Bool) (h : k ⟨bw109, 17, [.cell 2 (some 3),.tmp 3]⟩ = true) : tabK tabw 109 k = true := by
  have e : tabK tabw 109 k = k ⟨bw109, 17, [.cell 2 (some 3),.tmp 3]⟩ := by kernel_rfl
  rw [e]; exact h
theorem bw110_at (k : CF → Bool) (h : k ⟨bw110, 17, [.cell 2 (some 3),.tmp 3]⟩ = true) : tabK tabw 110 k = true := by
  have e : tabK tabw 110 k = k ⟨bw110, 17, [.cell 2 (some 3),.tmp 3]⟩ := by kernel_rfl
  rw [e]; exact h
theorem bw111_at (k : CF → Bool) (h : k ⟨bw111, 13, [.cell 2 (some 3),.tmp 3]⟩ = true) : tabK tabw 111 k = true := by
  have e : tabK tabw 111 k = k ⟨bw111, 13, [.cell 2 (some 3),.tmp 3]⟩ := by kernel_rfl
  rw [e]; exact h
theorem bw112_at (k : CF → Bool) (h : k ⟨bw112, 29, []⟩ = true) : tabK tabw 112 k = true := by
  have e : tabK tabw 112 k = k ⟨bw112, 29, []⟩ := by kernel_rfl
  rw [e]; exact h
theorem bw113_at (k : CF → Bool) (h : k ⟨bw113, 15, [.tmp 6]⟩ = true) : tabK tabw 113 k = true := by
  have e : tabK tabw 113 k = k ⟨bw113, 15, [.tmp 6]⟩ := by kernel_rfl
  rw [e]; exact h
theorem bw136_at (k : CF → Bool) (h : k ⟨bw136, 34, [.tmp 2]⟩ = true) : tabK tabw 136 k = true := by
  have e : tabK tabw 136 k = k ⟨bw136, 34, [.tmp 2]⟩ := by kernel_rfl
  rw [e]; exact h
theorem bw137_at (k : CF → Bool) (h : k ⟨bw137, 24, [.tmp 6]⟩ = true) : tabK tabw 137 k = true := by
  have e : tabK tabw 137 k = k ⟨bw137, 24, [.tmp 6]⟩ := by kernel_rfl
  rw [e]; exact h
theorem bw138_at (k : CF → Bool) (h : k ⟨bw138, 13, [.tmp 2]⟩ = true) : tabK tabw 138 k = true := by
  have e : tabK tabw 138 k = k ⟨bw138, 13, [.tmp 2]⟩ := by kernel_rfl
  rw [e]; exact h
theorem bw139_at (k : CF → Bool) (h : k ⟨bw139, 11, [.tmp 2]⟩ = true) : tabK tabw 139 k = true := by
  have e : tabK tabw 139 k = k ⟨bw139, 11, [.tmp 2]⟩ := by kernel_rfl
  rw [e]; exact h
theorem bw140_at (k : CF → Bool) (h : k ⟨bw140, 11, [.tmp 2]⟩ = true) : tabK tabw 140 k = true := by
  have e : tabK tabw 140 k = k ⟨bw140, 11, [.tmp 2]⟩ := by kernel_rfl
  rw [e]; exact h
theorem bw155_at (k : CF → Bool) (h : k ⟨bw155, 27, []⟩ = true) : tabK tabw 155 k = true := by
  have e : tabK tabw 155 k = k ⟨bw155, 27, []⟩ := by kernel_rfl
  rw [e]; exact h
theorem bw156_at (k : CF → Bool) (h : k ⟨bw156, 16, []⟩ = true) : tabK tabw 156 k = true := by
  have e : tabK tabw 156 k = k ⟨bw156, 16, []⟩ := by kernel_rfl
  rw [e]; exact h
theorem bw157_at (k : CF → Bool) (h : k ⟨bw157, 12, [.tmp 2,.tmp 3]⟩ = true) : tabK tabw 157 k = true := by
  have e : tabK tabw 157 k = k ⟨bw157, 12, [.tmp 2,.tmp 3]⟩ := by kernel_rfl
  rw [e]; exact h
theorem bw167_at (k : CF → Bool) (h : k ⟨bw167, 51, [.tmp 2]⟩ = true) : tabK tabw 167 k = true := by
  have e : tabK tabw 167 k = k ⟨bw167, 51, [.tmp 2]⟩ := by kernel_rfl
  rw [e]; exact h
theorem bw168_at (k : CF → Bool) (h : k ⟨bw168, 27, []⟩ = true) : tabK tabw 168 k = true := by
  have e : tabK tabw 168 k = k ⟨bw168, 27, []⟩ := by kernel_rfl
  rw [e]; exact h
theorem bw169_at (k : CF → Bool) (h : k ⟨bw169, 81, []⟩ = true) : tabK tabw 169 k = true := by
  have e : tabK tabw 169 k = k ⟨bw169, 81, []⟩ := by kernel_rfl
  rw [e]; exact h
theorem bw183_at (k : CF → Bool) (h : k ⟨bw183, 24, [.tmp 4]⟩ = true) : tabK tabw 183 k = true := by
  have e : tabK tabw 183 k = k ⟨bw183, 24, [.tmp 4]⟩ := by kernel_rfl
  rw [e]; exact h
end Ev
end Go.Proofs.YtonbhokaeodmdaaGreat

/- More of the evaluator's operations by what stands behind them: values made of parts, appends, calls of one answer. No program here. -/
namespace Go.Proofs.YtonbhokaeodmdaaGreat.Ev
open Go Go.RowKit
noncomputable section

/-- Parts filled in, on lists. -/
def fillL : List Value → List (Nat × Nat × Value) → Option (List Value)
  | l, [] => some l
  | l, (o, n, v) :: ps => match v.cells with
    | ⟨r⟩ => sel (Nat.beq r.length n && allOne r && Nat.ble o l.length) (match overL l o r with | some l' => fillL l' ps | none => none) none
theorem fillK_of {m : Nat} : ∀ {ps : List (Nat × Nat × Value)} {l l' : List Value} {c : BT Value} {k : BT Value → Bool}, l.length = m → Full c m → (∀ j, c.get j = l[j]?) → fillL l ps = some l' → (∀ c', Full c' m → (∀ j, c'.get j = l'[j]?) → l'.length = m → k c' = true) → fillK c ps k = true
  | [], l, l', c, k, hm, hf, hc, h, hk => by cases h; exact hk c hf hc hm
  | (o, n, v) :: ps, l, l', c, k, hm, hf, hc, h, hk => by
    simp only [fillL] at h
    obtain ⟨h1, h2⟩ := sel_inv h
    simp only [Bool.and_eq_true] at h1
    obtain ⟨⟨h3, h4⟩, h5⟩ := h1
    obtain ⟨r, hr⟩ : ∃ r, v.cells = ⟨r⟩ := ⟨v.cells.toList, rfl⟩
    have hr' : v.cells.toList = r := by rw [hr]
    split at h2
    · rename_i l1 h6
      obtain ⟨h7, h8⟩ := overL_eq h6 (by simpa using h5)
      show @Array.rec Value (fun _ => Bool) (fun l => ifB (Nat.beq (lenL l) n) (ifB (allOne l) (putsK c o l (fun c => fillK c ps k)) false) false) v.cells = true
      rw [hr]
      show ifB (Nat.beq (lenL r) n) (ifB (allOne r) (putsK c o r (fun c => fillK c ps k)) false) false = true
      rw [hr'] at h3 h4 h7 h8
      rw [lenL_eq, h3, h4]
      refine putsK_of hf (by omega) (fun c' hf' hg => fillK_of (l := l1) (by rw [h7, over_length h8]; exact hm) hf' (fun j => ?_) h2 hk)
      rw [hg, h7, over_get h8, hc]
    · cases h2
theorem a_callV {P : Program} {C : Nat → (CF → Bool) → Bool} {X : FuncId → List Value → St → (Value → St → Bool) → Bool} {s0 : St} {n nt : Nat} {env : List (Nat × Value)} {A : List Ob} {R : Value → List Ob → Prop} {f : Ev.X} {l : List Ev.X} {g : Nat} {p c vs : List Value} {u : Value}
    (hf : xv env f = some (.func (.func g) ⟨p⟩ ⟨c⟩)) (hl : xvs env l = some vs) (hg : ∀ s, Hld s0 A s → Spec P C X n g (p ++ (vs ++ c)) s (fun v A' => v = u ∧ A' = [])) (h : R u A) : OpA P C X s0 n nt (.call f l) env A R :=
  a_call hf hl hg (fun v A' hq => by obtain ⟨rfl, rfl⟩ := hq; exact h)
theorem a_callB {P : Program} {C : Nat → (CF → Bool) → Bool} {X : FuncId → List Value → St → (Value → St → Bool) → Bool} {s0 : St} {n nt : Nat} {env : List (Nat × Value)} {A : List Ob} {R : Value → List Ob → Prop} {f : Ev.X} {l : List Ev.X} {g : Nat} {pp c vs : List Value} {p : Prop} [Decidable p]
    (hf : xv env f = some (.func (.func g) ⟨pp⟩ ⟨c⟩)) (hl : xvs env l = some vs) (hg : ∀ s, Hld s0 A s → Spec P C X n g (pp ++ (vs ++ c)) s (fun v A' => v = .bool (decide p) ∧ A' = [])) (h1 : p → R (.bool true) A) (h2 : ¬ p → R (.bool false) A) : OpA P C X s0 n nt (.call f l) env A R :=
  a_call hf hl hg (fun v A' hq => by
    obtain ⟨rfl, rfl⟩ := hq
    by_cases h : p
    · rw [decide_eq_true h]; exact h1 h
    · rw [decide_eq_false h]; exact h2 h)

theorem a_callE {P : Program} {C : Nat → (CF → Bool) → Bool} {X : FuncId → List Value → St → (Value → St → Bool) → Bool} {s0 : St} {n nt : Nat} {env : List (Nat × Value)} {A : List Ob} {R : Value → List Ob → Prop} {f : Ev.X} {l : List Ev.X} {g : Nat} {pp c vs : List Value} {p : Prop} [Decidable p] {x y : Int}
    (hf : xv env f = some (.func (.func g) ⟨pp⟩ ⟨c⟩)) (hl : xvs env l = some vs) (hg : ∀ s, Hld s0 A s → Spec P C X n g (pp ++ (vs ++ c)) s (fun v A' => v = .int .i64 (if p then x else y) ∧ A' = [])) (h1 : p → R (.int .i64 x) A) (h2 : ¬ p → R (.int .i64 y) A) : OpA P C X s0 n nt (.call f l) env A R :=
  a_call hf hl hg (fun v A' hq => by
    obtain ⟨rfl, rfl⟩ := hq
    by_cases h : p
    · rw [if_pos h]; exact h1 h
    · rw [if_neg h]; exact h2 h)

/-- Rows of w numbers each, at an address. -/
structure RowsE (s : St) (w : Nat) (a : Option Addr) (rs : List (List Int)) : Prop where
  spot : ∀ b, a = some b → b.spot = none
  addr : rs ≠ [] → ∃ b o, a = some ⟨b, o, none⟩
  cells : ∀ b o, a = some ⟨b, o, none⟩ → ∀ i r, rs[i]? = some r → Ats s b (o + i * w) (r.map (.int .i64))
  width : ∀ r ∈ rs, r.length = w
  fit : ∀ r ∈ rs, ∀ x ∈ r, -9223372036854775808 ≤ x ∧ x < 9223372036854775808
  len : rs.length < 140737488355328
theorem RowsE.row {s : St} {w : Nat} {a : Option Addr} {rs : List (List Int)} (h : RowsE s w a rs) {k : Nat} (hk : k < rs.length) : ∃ b o r, a = some ⟨b, o, none⟩ ∧ rs[k]? = some r ∧ r.length = w ∧ Ats s b (o + k * w) (r.map (.int .i64)) ∧ ∀ x ∈ r, -9223372036854775808 ≤ x ∧ x < 9223372036854775808 := by
  obtain ⟨b, o, ha⟩ := h.addr (by intro e; rw [e] at hk; simp at hk)
  have hm : rs[k] ∈ rs := List.getElem_mem hk
  exact ⟨b, o, rs[k], ha, List.getElem?_eq_getElem hk, h.width _ hm, h.cells b o ha k _ (List.getElem?_eq_getElem hk), h.fit _ hm⟩
theorem RowsE.ext {s s' : St} {w : Nat} {a : Option Addr} {rs : List (List Int)} (h : RowsE s w a rs) (hw : Wf s) (x : Ext s s') : RowsE s' w a rs :=
  ⟨h.spot, h.addr, fun b o ha i r hr => (h.cells b o ha i r hr).ext hw x, h.width, h.fit, h.len⟩
theorem list_len_succ {α : Type} {n : Nat} {l : List α} (h : l.length = n + 1) : ∃ x r, l = x :: r ∧ r.length = n := by
  cases l with
  | nil => simp at h
  | cons x r => exact ⟨x, r, rfl, by simpa using h⟩

section
variable {P : Program} {C : Nat → (CF → Bool) → Bool} {X : FuncId → List Value → St → (Value → St → Bool) → Bool} {s0 : St} {n nt : Nat} {env : List (Nat × Value)} {A : List Ob} {R : Value → List Ob → Prop}
theorem a_build {z : List Value} {ps : List (Nat × Nat × Ev.X)} {vs : List (Nat × Nat × Value)} {l : List Value} (hp : xps env ps = some vs) (hf : fillL z vs = some l) (h : R (.agg ⟨l⟩) A) : OpA P C X s0 n nt (.build z ps) env A R := .mk fun s hs T hT k hk => by
  refine partsE_of hT (k := fun ps => buildK z ps (vK s k)) hp ?_
  unfold buildK
  refine rowOfList (fun c hc hg => fillK_of rfl hc hg hf (fun c' hc' hg' hl => ?_))
  exact segK_of (k := fun l => vK s k (.agg ⟨l⟩)) (l := l) (by rw [hl, lenL_eq]) (fun j _ => by rw [Nat.zero_add]; exact hg' j) (hk _ _ ⟨A, hs, h⟩)
theorem a_lit {e len m : Nat} {z : List Value} {ps : List (Nat × Nat × Ev.X)} {vs : List (Nat × Nat × Value)} {l : List Value} (hp : xps env ps = some vs) (hf : fillL z vs = some l) (hm : Nat.beq z.length m = true) (h : ∀ b, R (.slice (some ⟨b, 0, none⟩) len len) (.row b e false l :: A)) : OpA P C X s0 n nt (.lit e len m z ps) env A R := .mk fun s hs T hT k hk => by
  refine partsE_of hT (k := fun ps => litK s e len m z ps k) hp ?_
  unfold litK
  have hm' : z.length = m := by simpa using hm
  refine rowOfList (fun c hc hg => fillK_of rfl hc hg hf (fun c' hc' hg' hl => nOf_of ?_))
  exact newRow_of (l := l) (by rw [hl, hm']) hs.wf (by rw [hl]; exact hc') hg' (fun s' x _ ho => hk _ _ ⟨_, hs.new x ho, h s.n⟩)
theorem a_max {ts : Array Nat} {t : Nat} {x y : Ev.X} {k : IntKind} {a b : Int} (hx : xvs env [x, y] = some [.int k a, .int k b]) (h : R (.int k (max a b)) A) : OpA P C X s0 n nt (.bi .max ts t [x, y]) env A R :=
  a_bi hx (r := .int k (max a b)) (by
    have : evBi P .max ts t [.int k a, .int k b] = some (.int k (if b > a then b else a)) := rfl
    rw [this]; congr 2
    by_cases hab : b > a
    · rw [if_pos hab]; omega
    · rw [if_neg hab]; omega) h
theorem a_min {ts : Array Nat} {t : Nat} {x y : Ev.X} {k : IntKind} {a b : Int} (hx : xvs env [x, y] = some [.int k a, .int k b]) (h : R (.int k (min a b)) A) : OpA P C X s0 n nt (.bi .min ts t [x, y]) env A R :=
  a_bi hx (r := .int k (min a b)) (by
    have : evBi P .min ts t [.int k a, .int k b] = some (.int k (if b < a then b else a)) := rfl
    rw [this]; congr 2
    by_cases hab : b < a
    · rw [if_pos hab]; omega
    · rw [if_neg hab]; omega) h

theorem a_neg {x : Ev.X} {a : Int} (hx : xv env x = some (.int .i64 a)) (hr : -9223372036854775808 < a ∧ a < 9223372036854775808) (h : R (.int .i64 (-a)) A) : OpA P C X s0 n nt (.un .neg x) env A R :=
  a_un hx (r := .int .i64 (-a)) (by
    have : ev1 P (Op.unary .neg) (.int .i64 a) = some (.int .i64 (IntKind.i64.wrap (0 - a))) := rfl
    rw [this, IntWalk.i64_in _ (by omega)]; congr 2; omega) h
/-- One round of a loop, and the loop again. -/
theorem r_unroll {r : Option Nat} {D : List Nat} {b : CC} {Q : Out → List (Nat × Value) → List Nat → List Ob → Prop} (h : RunA P C X s0 n nt r b env D A (thenA (fun e D A => RunA P C X s0 n nt r (.loop b) e D A Q) Q)) : RunA P C X s0 (n + 1) nt r (.loop b) env D A Q := .mk fun s hs T hT k hk => by
  show (oracX P C X n).code r b T D s (fun x T D s => onOut x ((oracX P C X n).code r (.loop b) T D s k) (k x T D s) (fun _ => k x T D s) (fun _ => k x T D s)) = true
  refine h.go s hs T hT _ (fun x e T' D' s' hT' hq => ?_)
  obtain ⟨A', h1, h2⟩ := hq
  cases x with
  | normal => exact h2.go s' h1 T' hT' k hk
  | ret => exact hk _ _ T' D' s' hT' ⟨A', h1, h2⟩
  | exit i => exact hk _ _ T' D' s' hT' ⟨A', h1, h2⟩
  | goto i => exact hk _ _ T' D' s' hT' ⟨A', h1, h2⟩

/-! Appends. -/
/-- A row taken out. -/
inductive Del : List Ob → Nat → Nat → Bool → List Value → List Ob → Prop where
  | here {b e : Nat} {op : Bool} {l : List Value} {A : List Ob} : Del (.row b e op l :: A) b e op l A
  | next {x : Ob} {b e : Nat} {op : Bool} {l : List Value} {A A' : List Ob} (h : Del A b e op l A') : Del (x :: A) b e op l (x :: A')
theorem Del.own {A A' : List Ob} {b e : Nat} {op : Bool} {l : List Value} (h : Del A b e op l A') : Own A b e op l := by
  induction h with
  | here => exact .here
  | next _ ih => exact .next ih
theorem Del.sub {A A' : List Ob} {b e : Nat} {op : Bool} {l : List Value} (h : Del A b e op l A') : A'.Sublist A := by
  induction h with
  | here => exact List.sublist_cons_self _ _
  | next _ ih => exact ih.cons_cons _
theorem AOk.del {base : Nat} {s : St} {A A' : List Ob} {b e : Nat} {op : Bool} {l : List Value} (h : Del A b e op l A') : AOk base s A → ∀ y ∈ A', y.b ≠ b := by
  induction h with
  | here => exact fun h => h.2.2.1
  | next hd ih =>
    intro h y hy
    rcases List.mem_cons.1 hy with rfl | hy
    · exact Ne.symm (h.2.2.1 _ hd.own.mem)
    · exact ih h.2.2.2 y hy
theorem growK_of {s : St} {e size len n : Nat} {more old : List Value} {k : Value → St → Bool} (hw : Wf s) (ho : old.length = len * size) (hm : more.length = n * size) (hk : ∀ s', Ext s s' → s'.n = s.n + 1 → Obj s' s.n e true (old ++ more) → k (.slice (some ⟨s.n, 0, none⟩) (len + n) OPEN) s' = true) : growK s e size len n more old k = true := by
  unfold growK
  refine rowOfList (fun c hc hg => ?_)
  refine addsK_of (n := len * size) (by rw [← ho]; exact hc) (fun c' hc' hg' => nOf_of ?_)
  rw [forceN_eq]
  have hl : (old ++ more).length = (len + n) * size := by rw [List.length_append, ho, hm, Nat.add_mul]
  refine newRow_of (l := old ++ more) hl.symm hw (by rw [List.length_append, ho]; exact hc') (fun j => ?_) (fun s' x hn hob => ?_)
  · rw [hg']
    by_cases h1 : len * size ≤ j ∧ j < len * size + more.length
    · rw [if_pos h1, List.getElem?_append_right (by omega), ho]
    · rw [if_neg h1, hg]
      by_cases h2 : j < old.length
      · rw [List.getElem?_append_left h2]
      · rw [List.getElem?_eq_none (by omega), List.getElem?_eq_none (by simp; omega)]
  · rw [forceN_eq]; exact hk s' x hn hob
/-- What is appended: elements of a row. -/
def Src (s0 : St) (A : List Ob) (size n : Nat) (more : List Value) (y : Value) : Prop :=
  ∃ b o c, y = .slice (some ⟨b, o, none⟩) n c ∧ more.length = n * size ∧ more ≠ [] ∧ ((∃ e op l, Own A b e op l ∧ segL l o more.length = some more) ∨ Ats s0 b o more)
theorem moreK_of {s : St} (hs : Hld s0 A s) {size n' : Nat} {z more : List Value} {y : Value} {k : Nat → List Value → Bool} (h : Src s0 A size n' more y) (hk : k n' more = true) : moreK s size z false y k = true := by
  obtain ⟨b, o, c, rfl, h1, h0, h2⟩ := h
  have ha : Ats s b o more := by
    rcases h2 with ⟨e, op, l, h3, h4⟩ | h3
    · exact (hs.own h3).ats (segL_eq h4).2
    · exact hs.ats h3
  obtain ⟨f, h5, h6⟩ := ha.see h0
  show seeK s b (fun c => segK c o (Nat.mul n' size) (fun l => k n' l)) (fun g => romSegK g o (Nat.mul n' size) (fun l => k n' l)) = true
  refine seeK_of h5 (fun c hc => ?_) ?_
  · subst hc; exact segK_of (k := fun l => k n' l) h1 (fun j hj => h6 j (by rw [h1]; exact hj)) hk
  · exact romSegK_of (k := fun l => k n' l) h1 (fun j hj => h6 j (by rw [h1]; exact hj)) hk
/-- append(nil, ..): a row of the call's own. -/
theorem a_appn {e size bytes m : Nat} {z more : List Value} {x y : Ev.X} {yv : Value} (hx : xv env x = some (.slice none 0 0)) (hy : xv env y = some yv) (hsrc : Src s0 A size m more yv) (hm : m ≠ 0) (hb1 : m ≤ 1048576) (hb2 : bytes * m ≤ 1073741824)
    (h : ∀ b, R (.slice (some ⟨b, 0, none⟩) m OPEN) (.row b e true more :: A)) : OpA P C X s0 n nt (.app e size bytes z false x y) env A R := .mk fun s hs T hT k hk => by
  refine valE_of hT (k := fun x => valK T y (fun y => appK s e size bytes z false x y k)) hx (valE_of hT (k := fun y => appK s e size bytes z false _ y k) hy ?_)
  unfold appK
  refine moreK_of hs hsrc ?_
  obtain ⟨_, _, _, _, hml, _⟩ := hsrc
  show ifB (Nat.beq 0 0) (ifB (Nat.beq 0 0) (ifB (Nat.beq m 0) _ (ifB (Nat.ble m 1048576) (ifB (Nat.ble (Nat.mul bytes m) 1073741824) _ false) false)) false) false = true
  rw [show Nat.beq 0 0 = true from rfl, beqF hm, show Nat.ble m 1048576 = true from by rw [Nat.ble_eq]; exact hb1, show Nat.ble (Nat.mul bytes m) 1073741824 = true from by rw [Nat.ble_eq]; exact hb2]
  show addsK .leaf 0 more _ = true
  refine rowOfList (fun c hc hg => nOf_of ?_)
  rw [forceN_eq]
  exact newRow_of (l := more) hml.symm hs.wf hc hg (fun s' xx _ ho => hk _ _ ⟨_, hs.new xx ho, h s.n⟩)
/-- Nothing more can be put behind a row's elements but in a new one. -/
def Tight (op : Bool) (len cap : Nat) : Prop := (op = true ∧ cap = OPEN) ∨ (op = false ∧ cap = len ∧ len < OPEN)
/-- append to a row of the call's own. -/
theorem a_app {e size bytes b len cap m : Nat} {op : Bool} {z more l : List Value} {x y : Ev.X} {yv : Value} {A' : List Ob} (hx : xv env x = some (.slice (some ⟨b, 0, none⟩) len cap)) (hy : xv env y = some yv) (hsrc : Src s0 A size m more yv) (hd : Del A b e op l A') (hl : l.length = len * size) (ht : Tight op len cap) (hm : m ≠ 0) (hb1 : len + m ≤ 1048576) (hb2 : bytes * (len + m) ≤ 1073741824)
    (h : ∀ b, R (.slice (some ⟨b, 0, none⟩) (len + m) OPEN) (.row b e true (l ++ more) :: A')) : OpA P C X s0 n nt (.app e size bytes z false x y) env A R := .mk fun s hs T hT k hk => by
  refine valE_of hT (k := fun x => valK T y (fun y => appK s e size bytes z false x y k)) hx (valE_of hT (k := fun y => appK s e size bytes z false _ y k) hy ?_)
  unfold appK
  refine moreK_of hs hsrc ?_
  obtain ⟨_, _, _, _, hml, hm0, _⟩ := hsrc
  have hsz : size ≠ 0 := by
    rintro rfl
    apply hm0; exact List.eq_nil_of_length_eq_zero (by simpa using hml)
  show ifB (Nat.ble (Nat.add len m) 1048576) (ifB (Nat.ble (Nat.mul bytes (Nat.add len m)) 1073741824) (appAtK s e size b 0 len cap m more k) false) false = true
  rw [show Nat.ble (Nat.add len m) 1048576 = true from by rw [Nat.ble_eq]; exact hb1, show Nat.ble (Nat.mul bytes (Nat.add len m)) 1073741824 = true from by rw [Nat.ble_eq]; exact hb2]
  show appAtK s e size b 0 len cap m more k = true
  obtain ⟨c, hc, hf, hg⟩ := hs.own hd.own
  unfold appAtK
  refine objK_of (k := _) hc ?_
  have hee : Nat.beq e e = true := by rw [Nat.beq_eq]
  rcases ht with ⟨rfl, rfl⟩ | ⟨rfl, rfl, hlt⟩
  · show ifB (Nat.beq e e) (ifB (Nat.ble OPEN OPEN) (ifB true (ifB (Nat.beq 0 0) (ifB (Nat.beq OPEN OPEN) (ifB (Nat.ble (Nat.mul (Nat.add len m) size) l.length) _ (ifB (Nat.beq (Nat.mul len size) l.length) _ false)) false) false) false) _) false = true
    have hnot : Nat.ble (Nat.mul (Nat.add len m) size) l.length = false := by
      cases hb : Nat.ble (Nat.mul (Nat.add len m) size) l.length with
      | false => rfl
      | true =>
        have h1 : (len + m) * size ≤ l.length := by simpa using hb
        rw [hl, Nat.add_mul] at h1
        have : 0 < m * size := Nat.mul_pos (by omega) (by omega)
        omega
    rw [hee, hnot, show Nat.ble OPEN OPEN = true from by rw [Nat.ble_eq]; exact Nat.le_refl _, show Nat.beq 0 0 = true from rfl, show Nat.beq OPEN OPEN = true from by rw [Nat.beq_eq], show Nat.beq (Nat.mul len size) l.length = true from by rw [Nat.beq_eq]; exact hl.symm]
    show addsK c (Nat.mul len size) more _ = true
    refine addsK_of (n := len * size) (by rw [← hl]; exact hf) (fun c' hc' hg' => nOf_of ?_)
    refine storeK_of hs.wf (Full.lt hs.wf hc) (fun s1 hm1 hn1 hd1 => ?_)
    rw [forceN_eq]
    have hll : (l ++ more).length = (len + m) * size := by rw [List.length_append, hl, hml, Nat.add_mul]
    have hlow := (hs.2.2.lt hs.wf _ hd.own.mem).2
    have hs1 : Hld s0 A' s1 := ⟨hs.1, hs.2.1.mod hm1 (fun i hi => (List.mem_singleton.1 hi) ▸ hlow), (hs.2.2.sub hd.sub).mod hs.wf hm1 (AOk.del hd hs.2.2)⟩
    rw [show s.n = s1.n from hn1.symm]
    refine newRow_of (l := l ++ more) hll.symm hm1.1 (by rw [List.length_append, hl]; exact hc') (fun j => ?_) (fun s2 x2 _ ho2 => ?_)
    · rw [hg']
      by_cases h1 : len * size ≤ j ∧ j < len * size + more.length
      · rw [if_pos h1, List.getElem?_append_right (by omega), hl]
      · rw [if_neg h1, hg]
        by_cases h2 : j < l.length
        · rw [List.getElem?_append_left h2]
        · rw [List.getElem?_eq_none (by omega), List.getElem?_eq_none (by simp; omega)]
    · rw [forceN_eq]
      exact hk _ _ ⟨_, hs1.new x2 ho2, h s1.n⟩
  · show ifB (Nat.beq e e) (ifB (Nat.ble OPEN cap) _ (ifB (Nat.ble (Nat.add cap m) cap) _ (segK c 0 (Nat.mul cap size) (fun old => growK s e size cap m more old k)))) false = true
    rw [hee, show Nat.ble OPEN cap = false from by
      cases hb : Nat.ble OPEN cap with
      | false => rfl
      | true => rw [Nat.ble_eq] at hb; omega, show Nat.ble (Nat.add cap m) cap = false from by
      cases hb : Nat.ble (Nat.add cap m) cap with
      | false => rfl
      | true => rw [Nat.ble_eq] at hb; have : cap + m ≤ cap := hb; omega]
    show segK c 0 (Nat.mul cap size) (fun old => growK s e size cap m more old k) = true
    refine segK_of (l := l) hl (fun j _ => by rw [Nat.zero_add]; exact hg j) (growK_of hs.wf hl hml (fun s' x2 _ ho2 => hk _ _ ⟨_, (hs.sub hd.sub).new x2 ho2, h s.n⟩))
end
end
end Go.Proofs.YtonbhokaeodmdaaGreat.Ev
