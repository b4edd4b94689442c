/- The library's contract. -/
import Derived.Shelf.SlicesQ.Reverse
import Derived.Deep.AppendLies
import Derived.Test.YtddcbeeldjjmeaaGreatDoorP40
import Derived.RangeFuncNested
import Derived.RangeFuncBound
import Derived.Shelf.RegionOpen
import Derived.OwnWalkIn
import Derived.LoopNIn
import Derived.LoopIn
import Derived.Test.YtddcbeeldjjmeaaGreatDoorP26
import Derived.Test.YtddcbeeldjjmeaaGreatDoorP20
open Go renaming Value->ae,World->aa
namespace Go.Proofs
open Go.Shelf
end Go.Proofs
namespace Go.Proofs.YtddcbeeldjjmeaaGreatDoor.au
set_option linter.unusedVariables false
section
variable{P:Program}(w:aa)
end
end Go.Proofs.YtddcbeeldjjmeaaGreatDoor.au
namespace Go.Proofs.YtddcbeeldjjmeaaGreatDoor.au
open Go.RowKit bp
set_option linter.unusedVariables false
set_option linter.unusedSimpArgs false
end Go.Proofs.YtddcbeeldjjmeaaGreatDoor.au
namespace Go.Proofs.YtddcbeeldjjmeaaGreatDoor.au
open Go.RowKit bp Go.Shelf Go.Sort
set_option linter.unusedVariables false
set_option linter.unusedSimpArgs false
end Go.Proofs.YtddcbeeldjjmeaaGreatDoor.au
namespace Go.Proofs.YtddcbeeldjjmeaaGreatDoor.au
open Go.RowKit bp Go.Shelf Go.Sort Go.Deep
set_option linter.unusedVariables false
set_option linter.unusedSimpArgs false
def gq(m:bG):List UInt8:=(iV m).getD []
theorem VD{w w':aa}{base:Nat}{e:TypeId}{sz:Nat}{v:ae}{n:Nat}{xs:List ae}(h:w.ownsRow base e sz v n xs)(B:Below w.heap.size w w'):w'.ownsRow base e sz v n xs:=by obtain⟨h1,⟨rfl,h2⟩|⟨g,cap,cur,rfl,hg,hh,hr⟩⟩:=h;{exact⟨h1, .inl ⟨rfl,h2⟩⟩};.exact⟨h1, .inr ⟨g,cap,cur,rfl,hg,(B.block g (Array.getElem?_eq_some_iff.1 hh).1).trans hh,hr⟩⟩
end Go.Proofs.YtddcbeeldjjmeaaGreatDoor.au
namespace Go.Proofs.YtddcbeeldjjmeaaGreatDoor.au
open Go.RowKit bp Go.Shelf
set_option linter.unusedVariables false
set_option linter.unusedSimpArgs false
attribute[local go_sem]Oper.semAt_some
end Go.Proofs.YtddcbeeldjjmeaaGreatDoor.au
namespace Go.Proofs.YtddcbeeldjjmeaaGreatDoor.au
open Go.RowKit bp Go.Shelf
set_option linter.unusedVariables false
set_option linter.unusedSimpArgs false
structure aaW(w:aa)(m:bG)(sl e15 e16 e17:ae)(W:aa):Prop where
 jg:W.cell? ⟨w.heap.size,0,none⟩=some (.int .i64 m.kind)
 bK:W.cell? ⟨w.heap.size,1,none⟩=some (.string (S m.path))
 dU:W.cell? ⟨w.heap.size,2,none⟩=some (.string (S m.value))
 gE:W.cell? ⟨w.heap.size,3,none⟩=some (.int .i64 m.left)
 ou:W.cell? ⟨w.heap.size,4,none⟩=some (.int .i64 m.right)
 Dl:W.cell? ⟨w.heap.size,5,none⟩=some sl
 r0:W.cell? ⟨w.heap.size+1,0,none⟩=some (.string ⟨#[]⟩)
 cq:W.cell? ⟨w.heap.size+1,1,none⟩=some (.bool false)
 f0:W.frozen? ⟨w.heap.size+1,0,none⟩=false
 f1:W.frozen? ⟨w.heap.size+1,1,none⟩=false
 VE:W.cell? ⟨15,0,none⟩=some e15
 VF:W.cell? ⟨16,0,none⟩=some e16
 VG:W.cell? ⟨17,0,none⟩=some e17
 below:Below w.heap.size w W
 size:w.heap.size+2<=W.heap.size
structure aaX(w:aa)(e15 e16 e17:ae)(W:aa):Prop where
 z0:W.cell? ⟨w.heap.size,0,none⟩=some (.int .i64 0)
 pH:W.cell? ⟨w.heap.size,1,none⟩=some (.string ⟨#[]⟩)
 z2:W.cell? ⟨w.heap.size,2,none⟩=some (.string ⟨#[]⟩)
 z3:W.cell? ⟨w.heap.size,3,none⟩=some (.int .i64 0)
 z4:W.cell? ⟨w.heap.size,4,none⟩=some (.int .i64 0)
 z5:W.cell? ⟨w.heap.size,5,none⟩=some (.slice none 0 0)
 r0:W.cell? ⟨w.heap.size+1,0,none⟩=some (.string ⟨#[]⟩)
 cq:W.cell? ⟨w.heap.size+1,1,none⟩=some (.bool false)
 vZ:∀o,W.frozen? ⟨w.heap.size,o,none⟩=false
 aD:∀o,W.frozen? ⟨w.heap.size+1,o,none⟩=false
 VE:W.cell? ⟨15,0,none⟩=some e15
 VF:W.cell? ⟨16,0,none⟩=some e16
 VG:W.cell? ⟨17,0,none⟩=some e17
 below:Below w.heap.size w W
 size:w.heap.size+2<=W.heap.size
end Go.Proofs.YtddcbeeldjjmeaaGreatDoor.au
namespace Go.Proofs.YtddcbeeldjjmeaaGreatDoor.au
open Go.RowKit bp Go.Shelf Go.bQ
set_option linter.unusedVariables false
set_option linter.unusedSimpArgs false
end Go.Proofs.YtddcbeeldjjmeaaGreatDoor.au
namespace Go.Proofs.YtddcbeeldjjmeaaGreatDoor
open Go Go.RowKit Go.bq Go.bQ
set_option linter.unusedVariables false
set_option linter.unusedSimpArgs false
def jr(dg:cW)(t:T ByteArray):bp.bG:=⟨t.aT.kind,t.aT.path.data.toList,t.aT.value.data.toList,(Proofs.YtddcbeeldjjmeaaGreatDoor.aF.gL dg t.aT).1,(Proofs.YtddcbeeldjjmeaaGreatDoor.aF.gL dg t.aT).2⟩
theorem VH(dg:cW)(t:T ByteArray):au.kJ (jr dg t)= .agg #[.int .i64 t.aT.kind, .string t.aT.path, .string t.aT.value, .int .i64 (Proofs.YtddcbeeldjjmeaaGreatDoor.aF.gL dg t.aT).1, .int .i64 (Proofs.YtddcbeeldjjmeaaGreatDoor.aF.gL dg t.aT).2]:=by unfold au.kJ jr;simp only[au.Hr]
def jL(dg:cW)(w:aa)(t:T ByteArray)(b:Nat):Prop:=bA bI dg fl w t.aT b
theorem jL.below{dg:cW}{w w':aa}{t:T ByteArray}{b:Nat}(h:jL dg w t b)(B:Below w.heap.size w w'):jL dg w' t b:=vA B h
theorem Kv{dg:cW}{w:aa}:∀{t:aF}{b:Nat},bA bI dg fl w t b->w.cell? ⟨b,5,none⟩=some (.int .i64 (t.b3 dg))| .branch _ _ _,_,⟨_,_,_,h,_⟩=>(aS.cells h).2.2.2.2.2| .empty,_,⟨_,h⟩=>(aS.cells h).2.2.2.2.2| .leaf _ _,_,⟨_,h⟩=>(aS.cells h).2.2.2.2.2
end Go.Proofs.YtddcbeeldjjmeaaGreatDoor
namespace Go.Proofs.YtddcbeeldjjmeaaGreatDoor
open Go Go.RowKit Go.bq Go.bQ Go.Deep
set_option linter.unusedVariables false
set_option linter.unusedSimpArgs false
end Go.Proofs.YtddcbeeldjjmeaaGreatDoor
namespace Go.Proofs.YtddcbeeldjjmeaaGreatDoor.au
open Go.RowKit bp Go.Shelf Go.Deep Go.bQ
set_option linter.unusedVariables false
set_option linter.unusedSimpArgs false
end Go.Proofs.YtddcbeeldjjmeaaGreatDoor.au
namespace Go.Proofs.YtddcbeeldjjmeaaGreatDoor
open Go Go.RowKit Go.bq Go.bQ
set_option linter.unusedVariables false
set_option linter.unusedSimpArgs false
end Go.Proofs.YtddcbeeldjjmeaaGreatDoor
namespace Go.Proofs.YtddcbeeldjjmeaaGreatDoor
open Go Go.RowKit Go.bq Go.bQ Go.Deep au
set_option linter.unusedVariables false
set_option linter.unusedSimpArgs false
end Go.Proofs.YtddcbeeldjjmeaaGreatDoor
namespace Go.Proofs.YtddcbeeldjjmeaaGreatDoor
open Go Go.RowKit Go.bq Go.bQ au
set_option linter.unusedVariables false
set_option linter.unusedSimpArgs false
theorem DL(n:Nat)(hn:n<=32)(t:T ByteArray)(hW:j5 t.aT):bp.iV (jr (aK n) t)=some (gq (jr (aK n) t))/\(fD.b3 n (gq (jr (aK n) t)):Int)=t.aT.b3 (aK n):=by have h:=Cj n hn t.aT hW;(have e:gq (jr (aK n) t)=pN t.aT.kind t.aT.path t.aT.value (aF.gL (aK n) t.aT).1 (aF.gL (aK n) t.aT).2:=by unfold gq jr;rw[h];rfl);refine⟨by rw[e];exact h, ?_⟩;rw[e,aF.Ic];rfl
