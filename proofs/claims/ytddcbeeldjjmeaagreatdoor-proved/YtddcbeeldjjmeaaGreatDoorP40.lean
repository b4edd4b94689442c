/- Proofs as plain data:. -/
import Derived.Test.YtddcbeeldjjmeaaGreatDoorP16
open List renaming append_assoc->dS,cons_append->eI,length_append->bH,length_cons->fj
open Option.some renaming injEq->c9
open Prod.mk renaming injEq->eQ
namespace Go.Proofs.YtddcbeeldjjmeaaGreatDoor.bg
set_option linter.unusedVariables false
set_option linter.unusedSimpArgs false
structure bR where
 side:Int
 path:List UInt8
 other:Int
structure gv where
 de:aX
 bI:List bR
def jg(u:bR):Bool:=decide (0<=u.side/\u.side<=1)&&gV u.path&&fH u.other
def lB(u:bR):List UInt8:=b8 u.side.toNat::(fq u.path++bj u.other.toNat)
def gK(us:List bR):List UInt8:=(us.map lB).flatten
def j9(us:List bR):Bool:=decide (us.length<=37)&&us.all jg
def AE(p:gv):Option (List UInt8):=match dt p.de with|none=>none|some b=>if j9 p.bI=true then some (df b.length++(b++(df p.bI.length++gK p.bI)))else none
def o6:List UInt8->Option (bR×List UInt8)|[]=>none|c::l=>if c.toNat<=1 then match jV l with|none=>none|some (p,l1)=>match p4 l1 with|none=>none|some (x,l2)=>some (⟨c.toNat,p,x⟩,l2)else none
def mb:Nat->List UInt8->Option (List bR×List UInt8)|0,l=>some ([],l)|n+1,l=>match o6 l with|none=>none|some (u,r)=>match mb n r with|none=>none|some (us,r')=>some (u::us,r')
def pU(l:List UInt8):Option (aX×List UInt8):=match ky l with|none=>none|some (n,l1)=>if l1.length<n then none else match pJ (l1.take n)with|none=>none|some m=>some (m,l1.drop n)
def sJ(l:List UInt8):Option (gv×List UInt8):=match pU l with|none=>none|some (m,l1)=>match ky l1 with|none=>none|some (n,l2)=>if 37<n then none else match mb n l2 with|none=>none|some (us,l3)=>some (⟨m,us⟩,l3)
def rf(b:List UInt8):Option gv:=match sJ b with|some (p,[])=>some p|_=>none
theorem o7(u:bR):jg u=true↔(0<=u.side/\u.side<=1)/\gV u.path=true/\fH u.other=true:=by simp only[jg,Bool.and_eq_true,decide_eq_true_eq];exact⟨fun⟨⟨a,b⟩,c⟩=>⟨a,b,c⟩,fun⟨a,b,c⟩=>⟨⟨a,b⟩,c⟩⟩
theorem rh(us:List bR):j9 us=true↔us.length<=37/\∀u,u∈us->jg u=true:=by simp only[j9,Bool.and_eq_true,decide_eq_true_eq,List.all_eq_true]
theorem Em(c:UInt8)(l:List UInt8):o6 (c::l)=if c.toNat<=1 then match jV l with|none=>none|some (p,l1)=>match p4 l1 with|none=>none|some (x,l2)=>some (⟨c.toNat,p,x⟩,l2)else none:=rfl
theorem XE(u:bR)(l:List UInt8)(h:jg u=true):o6 (lB u++l)=some (u,l):=by
 obtain⟨h1,h2,h3⟩:=(o7 u).1 h;obtain⟨s,p,x⟩:=u;simp only[fH,decide_eq_true_eq]at h1 h2 h3;have e1:(s.toNat:Int)=s:=by omega
 have e2:(x.toNat:Int)=x:=by omega
 have hb:(b8 s.toNat).toNat=s.toNat:=gJ _ (by omega);unfold lB;dsimp only;rw[eI,dS,Em,hb,if_pos (by omega),CK _ _ ((lS p).1 h2)];dsimp only;rw[CJ _ _ (by omega)];dsimp only;rw[e1,e2]
theorem LM(u:bR)(b l:List UInt8)(h:o6 b=some (u,l)):b=lB u++l/\jg u=true:=by match b,h with|c::b,h=>rw[Em]at h;by_cases hc:c.toNat<=1;{rw[if_pos hc]at h;cases h1:jV b with|none=>rw[h1]at h;cases h|some x=>obtain⟨p,l1⟩:=x;rw[h1]at h;dsimp only at h;cases h2:p4 l1 with|none=>rw[h2]at h;cases h|some y=>obtain⟨x,l2⟩:=y;rw[h2]at h;simp only[c9,eQ]at h;obtain⟨rfl,rfl⟩:=h;obtain⟨a1,a2⟩:=tQ _ _ _ h1;obtain⟨bL,c8⟩:=zy _ _ _ h2;refine⟨?_,(o7 _).2 ⟨by simp only;omega,(lS p).2 a2,by simp[fH];omega⟩⟩;unfold lB;dsimp only;rw[a1,bL];simp only[Int.toNat_natCast,zw,eI,dS]};.rw[if_neg hc]at h;cases h
theorem En(u:bR)(us:List bR):gK (u::us)=lB u++gK us:=by simp[gK]
theorem Eo(n:Nat)(l:List UInt8):mb (n+1) l=match o6 l with|none=>none|some (u,r)=>match mb n r with|none=>none|some (us,r')=>some (u::us,r'):=rfl
theorem LN:∀(us:List bR)(l:List UInt8),(∀u,u∈us->jg u=true)->mb us.length (gK us++l)=some (us,l)|[],l,_=>rfl|u::us,l,h=>by have ih:=LN us l fun x hx=>h x (List.mem_cons_of_mem _ hx);rw[fj,En,dS,Eo,XE u _ (h u (List.mem_cons_self ..))];dsimp only;rw[ih]
theorem LO:∀(n:Nat)(b l:List UInt8)(us:List bR),mb n b=some (us,l)->b=gK us++l/\us.length=n/\∀u,u∈us->jg u=true|0,b,l,us,h=>by simp only[mb,c9,eQ]at h;obtain⟨rfl,rfl⟩:=h;exact⟨rfl,rfl,fun d hd=>by cases hd⟩|n+1,b,l,us,h=>by rw[Eo]at h;cases hd:o6 b with|none=>rw[hd]at h;cases h|some x=>obtain⟨d,r⟩:=x;rw[hd]at h;dsimp only at h;cases hr:mb n r with|none=>rw[hr]at h;cases h|some y=>obtain⟨es,r'⟩:=y;rw[hr]at h;simp only[c9,eQ]at h;obtain⟨rfl,rfl⟩:=h;obtain⟨e1,e2⟩:=LM _ _ _ hd;obtain⟨e3,e4',e5⟩:=LO n _ _ _ hr;refine⟨?_,by simp[e4'],fun x hx=>?_⟩;{rw[e1,e3,En,dS]};.rcases List.mem_cons.1 hx with rfl|hx;{exact e2};.exact e5 x hx
theorem Ep(n:aX)(b:List UInt8)(h:dt n=some b):b.length<=60:=by
 have hp:∀s,gV s=true->(fq s).length<=15:=fun s hs=>by have h1:=((lS s).1 hs).2;(have h2:(df s.length).length<=10:=by(have:∀(f m:Nat),(iB f m).length<=f:=by intro f;induction f with|zero=>intro m;simp[iB]|succ f ih=>intro m;unfold iB;split;{simp};.simp only[fj];have:=ih (m/128);omega);exact this 10 _);unfold fq;rw[bH,tP];omega
 have hv:∀v:List UInt8,v.length<=20->(oQ v).length<=30:=fun v hv=>by(have h2:(df v.length).length<=10:=by(have:∀(f m:Nat),(iB f m).length<=f:=by intro f;induction f with|zero=>intro m;simp[iB]|succ f ih=>intro m;unfold iB;split;{simp};.simp only[fj];have:=ih (m/128);omega);exact this 10 _);unfold oQ;rw[bH];omega
 unfold dt at h;by_cases h0:n=empty;{rw[if_pos h0]at h;cases h;simp};.rw[if_neg h0]at h;by_cases h1:n.kind=0/\gV n.path=true/\n.value.length<=20/\n.left=0/\n.right=0;{rw[if_pos h1]at h;cases h;have a:=hp _ h1.2.1;have b:=hv _ h1.2.2.1;simp only[fj,bH];omega};.rw[if_neg h1]at h;by_cases h2:n.kind=1/\gV n.path=true/\n.value=[]/\fH n.left=true/\fH n.right=true;{rw[if_pos h2]at h;cases h;have a:=hp _ h2.2.1;simp only[fj,bH,bj,List.length_nil];omega};.rw[if_neg h2]at h;cases h
theorem XF(n:aX)(b l:List UInt8)(h:dt n=some b):pU (df b.length++(b++l))=some (n,l):=by have hl:=Ep n b h;unfold pU;rw[zx _ _ (by omega)];dsimp only;rw[if_neg (by rw[bH];omega),List.take_left,List.drop_left,QY n b h]
theorem XG(n:aX)(b l:List UInt8)(h:pU b=some (n,l)):∃c,dt n=some c/\b=df c.length++(c++l):=by unfold pU at h;cases h1:ky b with|none=>rw[h1]at h;cases h|some x=>obtain⟨k,l1⟩:=x;rw[h1]at h;dsimp only at h;by_cases hk:l1.length<k;{rw[if_pos hk]at h;cases h};.rw[if_neg hk]at h;cases h2:pJ (l1.take k)with|none=>rw[h2]at h;cases h|some m=>rw[h2]at h;simp only[c9,eQ]at h;obtain⟨rfl,rfl⟩:=h;refine⟨l1.take k,QZ _ _ h2, ?_⟩;rw[List.take_append_drop,List.length_take,Nat.min_eq_left (by omega)];exact(tO _ _ _ h1).1
theorem XH(p:gv)(b l:List UInt8)(h:AE p=some b):sJ (b++l)=some (p,l):=by unfold AE at h;cases hn:dt p.de with|none=>rw[hn]at h;cases h|some c=>rw[hn]at h;dsimp only at h;by_cases hk:j9 p.bI=true;{rw[if_pos hk]at h;cases h;obtain⟨h1,h2⟩:=(rh _).1 hk;unfold sJ;rw[dS,dS,dS,XF _ _ _ hn];dsimp only;rw[zx _ _ (by omega)];dsimp only;rw[if_neg (by omega),LN _ _ h2]};.rw[if_neg hk]at h;cases h
theorem XI(p:gv)(b:List UInt8)(h:AE p=some b):rf b=some p:=by have:=XH p b [] h;rw[List.append_nil]at this;unfold rf;rw[this]
