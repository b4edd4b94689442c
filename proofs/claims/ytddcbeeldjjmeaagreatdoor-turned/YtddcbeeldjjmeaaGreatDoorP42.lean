/- Manifests as plain. -/
import Derived.Test.YtddcbeeldjjmeaaGreatDoorP16
namespace Go.Proofs.YtddcbeeldjjmeaaGreatDoor.bp
set_option linter.unusedVariables false
set_option linter.unusedSimpArgs false
structure Mf where
 width:Int
 root:Int
 size:Int
 total:Int
 Kw:List Int
def kP(ds:List Int):List UInt8:=(ds.map fun d=>e4 d.toNat).flatten
theorem VI(d:Int)(ds:List Int):kP (d::ds)=e4 d.toNat++kP ds:=by simp[kP]
theorem VJ(ds:List Int):(kP ds).length=4*ds.length:=by induction ds with|nil=>rfl|cons d ds ih=>rw[VI,List.length_append,ih];simp[e4];omega
