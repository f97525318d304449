import Derived.Shelf.Sort.Plain
import Derived.Shelf.Slices.In.SortNone
import Derived.Shelf.Slices.CompactI
import Derived.Shelf.Slices.Empties
import Derived.Test.YtjkdkpckjgaplaaGreatZh17
set_option linter.unusedVariables false
set_option linter.unusedSimpArgs false
namespace Go.Proofs.YtjkdkpckjgaplaaGreat
open Go.Shelf Go.Proofs
def Ch : Go.Shelf.Ren := ⟨fun | 189 => 42 | 125 => 100 | 257 => 99 | 128 => 147 | 129 => 148 | 294 => 138 | 295 => 139 | 296 => 140 | 297 => 141 | 298 => 142 | 299 => 143 | 216 => 144 | 300 => 145 | 301 => 146 | 328 => 180 | 329 => 181 | 330 => 182 | 331 => 183 | 332 => 184 | 215 => 185 | 343 => 202 | n => n, fun | 28 => 22 | 3 => 3 | 46 => 157 | 0 => 0 | 51 => 208 | 53 => 210 | 4 => 4 | 183 => 202 | 182 => 201 | 131 => 148 | 5 => 5 | 9 => 9 | 218 => 231 | 222 => 235 | 228 => 253 | 229 => 254 | n => n, fun | n => n⟩
theorem Fb : Go.Proofs.Lays.n189 Tryz.prog Ch := {
 mixed := kR
 f125 := Tryz.func100.trans (congrArg some kR)
 f128 := Tryz.func147.trans (congrArg some kR)
 f129 := Tryz.func148.trans (congrArg some kR)
 f189 := Tryz.func42.trans (congrArg some kR)
 f215 := Tryz.func185.trans (congrArg some kR)
 f216 := Tryz.func144.trans (congrArg some kR)
 f257 := Tryz.func99.trans (congrArg some kR)
 f294 := Tryz.func138.trans (congrArg some kR)
 f295 := Tryz.func139.trans (congrArg some kR)
 f296 := Tryz.func140.trans (congrArg some kR)
 f297 := Tryz.func141.trans (congrArg some kR)
 f298 := Tryz.func142.trans (congrArg some kR)
 f299 := Tryz.func143.trans (congrArg some kR)
 f300 := Tryz.func145.trans (congrArg some kR)
 f301 := Tryz.func146.trans (congrArg some kR)
 f328 := Tryz.func180.trans (congrArg some kR)
 f329 := Tryz.func181.trans (congrArg some kR)
 f330 := Tryz.func182.trans (congrArg some kR)
 f331 := Tryz.func183.trans (congrArg some kR)
 f332 := Tryz.func184.trans (congrArg some kR)
 f343 := Tryz.func202.trans (congrArg some kR)
 t0 := Tryz.underlying0
 a0 := Tryz.isAgg0
 z0 := Tryz.sizeOf0
 v0 := Tryz.zeroValue0
 t3 := Tryz.underlying3
 a3 := Tryz.isAgg3
 z3 := Tryz.sizeOf3
 v3 := Tryz.zeroValue3
 t4 := Tryz.underlying4
 a4 := Tryz.isAgg4
 z4 := Tryz.sizeOf4
 v4 := Tryz.zeroValue4
 t5 := Tryz.underlying5
 a5 := Tryz.isAgg5
 z5 := Tryz.sizeOf5
 v5 := Tryz.zeroValue5
 t9 := Tryz.underlying9
 a9 := Tryz.isAgg9
 z9 := Tryz.sizeOf9
 v9 := Tryz.zeroValue9
 t28 := Tryz.underlying22
 a28 := Tryz.isAgg22
 z28 := Tryz.sizeOf22
 v28 := Tryz.zeroValue22
 t46 := Tryz.underlying157
 a46 := Tryz.isAgg157
 z46 := Tryz.sizeOf157
 v46 := Tryz.zeroValue157
 t51 := Tryz.underlying208
 a51 := Tryz.isAgg208
 z51 := Tryz.sizeOf208
 v51 := Tryz.zeroValue208
 t53 := Tryz.underlying210
 a53 := Tryz.isAgg210
 z53 := Tryz.sizeOf210
 v53 := Tryz.zeroValue210
 t131 := Tryz.underlying148
 a131 := Tryz.isAgg148
 z131 := Tryz.sizeOf148
 v131 := Tryz.zeroValue148
 t182 := Tryz.underlying201
 a182 := Tryz.isAgg201
 z182 := Tryz.sizeOf201
 v182 := Tryz.zeroValue201
 t183 := Tryz.underlying202
 a183 := Tryz.isAgg202
 z183 := Tryz.sizeOf202
 v183 := Tryz.zeroValue202
 t218 := Tryz.underlying231
 a218 := Tryz.isAgg231
 z218 := Tryz.sizeOf231
 v218 := Tryz.zeroValue231
 t222 := Tryz.underlying235
 a222 := Tryz.isAgg235
 z222 := Tryz.sizeOf235
 v222 := Tryz.zeroValue235
 t228 := Tryz.underlying253
 a228 := Tryz.isAgg253
 z228 := Tryz.sizeOf253
 v228 := Tryz.zeroValue253
 t229 := Tryz.underlying254
 a229 := Tryz.isAgg254
 z229 := Tryz.sizeOf254
 v229 := Tryz.zeroValue254 }
def yO : Go.Shelf.Ren := ⟨fun | 20 => 43 | n => n, fun | 22 => 22 | 3 => 3 | 4 => 4 | 0 => 0 | n => n, fun | n => n⟩
theorem zZ : Go.Proofs.Lays2.n20 Tryz.prog yO := {
 mixed := kR
 f20 := Tryz.func43.trans (congrArg some kR)
 t0 := Tryz.underlying0
 a0 := Tryz.isAgg0
 z0 := Tryz.sizeOf0
 v0 := Tryz.zeroValue0
 t3 := Tryz.underlying3
 a3 := Tryz.isAgg3
 z3 := Tryz.sizeOf3
 v3 := Tryz.zeroValue3
 t4 := Tryz.underlying4
 a4 := Tryz.isAgg4
 z4 := Tryz.sizeOf4
 v4 := Tryz.zeroValue4
 t22 := Tryz.underlying22
 a22 := Tryz.isAgg22
 z22 := Tryz.sizeOf22
 v22 := Tryz.zeroValue22
 i3 := by kernel_rfl }
open Go Go.RowKit Go.Lib Go.Sort
theorem ME : IF := fun blk off cap zs w h1 h2 h3 => Any.slices_Sort_int Fb blk off cap zs w h1 h2 h3
theorem MF : IG := fun p cap w => Any.slices_Sort_int_none Fb p cap w
theorem Ot : M1 := fun blk off cap zs w h1 h2 h3 => Any.slices_Compact_int zZ blk off cap zs w h1 h2 h3
theorem Ou : M2 := fun a cap w => Any.slices_Compact_int_empty zZ a cap w
theorem Ov : Ev.pN Tryz.prog 42 Ev.E5 none := Da ME MF
theorem PV : Ev.pN Tryz.prog 43 Ev.E6 Ev.MA := FO Ot Ou
end Go.Proofs.YtjkdkpckjgaplaaGreat
