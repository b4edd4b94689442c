/- The library's contracts. -/
import Derived.Test.YtddcbeeldjjmeaaGreatDoorProg
import Derived.Shelf.Strconv.Clone
import Derived.Shelf.Strings.SlTrimAscii
set_option linter.unusedVariables false
namespace Go.Proofs
open Go.Shelf
def Tryz.Q6:Go.Shelf.Ren:=⟨fun|316=>135|n=>n,fun|9=>9|3=>3|4=>4|37=>100|0=>0|127=>262|5=>5|n=>n,fun|n=>n⟩
theorem Tryz.Q7:Go.Proofs.LaysM.n316 Tryz.prog Tryz.Q6:={mixed:=by kernel_rfl,f316:=Tryz.func135.trans (congrArg some (by kernel_rfl)),t0:=Tryz.underlying0,a0:=Tryz.isAgg0,z0:=Tryz.sizeOf0,v0:=Tryz.zeroValue0,t3:=Tryz.underlying3,a3:=Tryz.isAgg3,z3:=Tryz.sizeOf3,v3:=Tryz.zeroValue3,t4:=Tryz.underlying4,a4:=Tryz.isAgg4,z4:=Tryz.sizeOf4,v4:=Tryz.zeroValue4,t9:=Tryz.underlying9,a9:=Tryz.isAgg9,z9:=Tryz.sizeOf9,v9:=Tryz.zeroValue9,t37:=Tryz.underlying100,a37:=Tryz.isAgg100,z37:=Tryz.sizeOf100,v37:=Tryz.zeroValue100,t127:=Tryz.underlying262,a127:=Tryz.isAgg262,z127:=Tryz.sizeOf262,v127:=Tryz.zeroValue262,t5:=Tryz.underlying5,a5:=Tryz.isAgg5,z5:=Tryz.sizeOf5,v5:=Tryz.zeroValue5,i0:=by kernel_rfl,i3:=by kernel_rfl,i4:=by kernel_rfl,i5:=by kernel_rfl,i9:=by kernel_rfl,i37:=by kernel_rfl,i127:=by kernel_rfl}
