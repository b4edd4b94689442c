/- Proofs as plain data:. -/
import Derived.Test.YtddcbeeldjjmeaaGreatDoorP18
import Derived.Test.YtddcbeeldjjmeaaGreatDoorP23
import Derived.Deep.OwnRows
import Derived.Deep.RegionHeld3
open List renaming length_append->cm,length_cons->fh
namespace Go.Proofs.YtddcbeeldjjmeaaGreatDoor.bp
set_option linter.unusedVariables false
set_option linter.unusedSimpArgs false
structure VB where
 side:Int
 path:List UInt8
 other:Int
structure Pf where
 aaT:bG
 aaU:List VB
theorem VC(n:bG)(b:List UInt8)(h:iV n=some b):b.length<=60:=by
 have hp:∀s,ji s=true->(j0 s).length<=15:=fun s hs=>by have h1:=((uY s).1 hs).2;(have h2:(cU s.length).length<=10:=by(have:∀(f m:Nat),(iU f m).length<=f:=by intro f;induction f with|zero=>intro m;simp[iU]|succ f ih=>intro m;unfold iU;split;{simp};.simp only[fh];have:=ih (m/128);omega);exact this 10 _);unfold j0;rw[cm,B5];omega
 have hv:∀v:List UInt8,v.length<=20->(uX v).length<=30:=fun v hv=>by(have h2:(cU v.length).length<=10:=by(have:∀(f m:Nat),(iU f m).length<=f:=by intro f;induction f with|zero=>intro m;simp[iU]|succ f ih=>intro m;unfold iU;split;{simp};.simp only[fh];have:=ih (m/128);omega);exact this 10 _);unfold uX;rw[cm];omega
 unfold iV at h;by_cases h0:n=empty;{rw[if_pos h0]at h;cases h;simp};.rw[if_neg h0]at h;by_cases h1:n.kind=0/\ji n.path=true/\n.value.length<=20/\n.left=0/\n.right=0;{rw[if_pos h1]at h;cases h;have a:=hp _ h1.2.1;have b:=hv _ h1.2.2.1;simp only[fh,cm];omega};.rw[if_neg h1]at h;by_cases h2:n.kind=1/\ji n.path=true/\n.value=[]/\j4 n.left=true/\j4 n.right=true;{rw[if_pos h2]at h;cases h;have a:=hp _ h2.2.1;simp only[fh,cm,e4,List.length_nil];omega};.rw[if_neg h2]at h;cases h
end Go.Proofs.YtddcbeeldjjmeaaGreatDoor.bp
namespace Go.Proofs.YtddcbeeldjjmeaaGreatDoor.au
open Go.RowKit bp
set_option linter.unusedVariables false
set_option linter.unusedSimpArgs false
def aaV:bG:=⟨0,[],[],0,0⟩
end Go.Proofs.YtddcbeeldjjmeaaGreatDoor.au
namespace Go.Proofs.YtddcbeeldjjmeaaGreatDoor.au
open Go.RowKit bp Go.Deep
set_option linter.unusedVariables false
set_option linter.unusedSimpArgs false
end Go.Proofs.YtddcbeeldjjmeaaGreatDoor.au
namespace Go.Proofs.YtddcbeeldjjmeaaGreatDoor.au
open Go.RowKit bp
set_option linter.unusedVariables false
set_option linter.unusedSimpArgs false
