/- The library's contract. -/
import Derived.Test.YtddcbeeldjjmeaaGreatDoorProg
import Derived.Ground.NamesProg
import Derived.Shelf.SlicesQ.Reverse
set_option linter.unusedVariables false
namespace Go.Proofs
open Go.Shelf
def Tryz.Yx:Go.Shelf.Ren:=⟨fun|35=>199|n=>n,fun|22=>193|23=>23|3=>3|4=>4|0=>0|n=>n,fun|n=>n⟩
theorem Tryz.Yy:Go.Proofs.SlLaysE0.n35 Tryz.prog Tryz.Yx:={mixed:=by kernel_rfl,f35:=⟨Tryz.f199.name,by decide,Tryz.func199.trans (congrArg some (by kernel_rfl))⟩,t0:=Tryz.underlying0,a0:=Tryz.isAgg0,z0:=Tryz.sizeOf0,v0:=Tryz.zeroValue0,t3:=Tryz.underlying3,a3:=Tryz.isAgg3,z3:=Tryz.sizeOf3,v3:=Tryz.zeroValue3,t4:=Tryz.underlying4,a4:=Tryz.isAgg4,z4:=Tryz.sizeOf4,v4:=Tryz.zeroValue4,t22:=Tryz.underlying193,a22:=Tryz.isAgg193,z22:=Tryz.sizeOf193,v22:=Tryz.zeroValue193}
