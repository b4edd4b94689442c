/- Bytes, as plain lists:. -/
import Derived.WalkKit
open BitVec renaming ofInt->yD,ofInt_natCast->acx,toNat_ofNat->acy
open Go renaming bits->fO
open Go.IntWalk renaming wrap64_in->Ga
open List renaming append_assoc->dS,append_nil->jQ,cons_append->eI,drop_left->rH,getD_eq_getElem?_getD->rL,getElem?_drop->acA,getElem?_eq_getElem->e4,getElem?_eq_none->s9,getElem?_map->mQ,getElem?_range->yE,getElem?_take->pk,length_append->bH,length_take->iL,nil_append->jP,range->eP,take_append_drop->vu
open Nat renaming mod_eq_of_lt->F9,pow_le_pow_right->s8,pow_succ->s7
open Option renaming getD_some->bu,map_some->iy
open Option.some renaming inj->ib,injEq->c9
open Prod.mk renaming injEq->eQ
namespace Go.Proofs.YtddcbeeldjjmeaaGreatDoor.bg
set_option linter.unusedVariables false
set_option linter.unusedSimpArgs false
theorem we(a:Nat)(ha:a<9223372036854775808):(yD 64 (a:Int)).toNat=a:=by rw[acx,acy];exact F9 (by omega)
theorem wh(a b:Nat)(ha:a<9223372036854775808)(hb:b<9223372036854775808):fO .or .i64 (a:Int) (b:Int)=((a|||b:Nat):Int):=by have hx:a|||b<2^63:=Nat.or_lt_two_pow (by omega) (by omega);show IntKind.i64.wrap ((yD 64 (a:Int)|||yD 64 (b:Int)).toNat:Int)=_;rw[BitVec.toNat_or,we a ha,we b hb,IntKind.wrap_i64];omega
theorem QF(a b c d:Nat)(ha:a<256)(hb:b<256)(hc:c<256)(hd:d<256):fO .or .i64 (fO .or .i64 (fO .or .i64 ((a:Int)*16777216) ((b:Int)*65536)) ((c:Int)*256)) (d:Int)=((a*16777216+b*65536+c*256+d:Nat):Int):=by rw[show((a:Int)*16777216)=((a*16777216:Nat):Int)from by omega,show((b:Int)*65536)=((b*65536:Nat):Int)from by omega,show((c:Int)*256)=((c*256:Nat):Int)from by omega];rw[wh _ _ (by omega) (by omega),nat_join 24 (a*16777216) (b*65536) (by omega) (by omega)];rw[wh _ _ (by omega) (by omega),nat_join 16 (a*16777216+b*65536) (c*256) (by omega) (by omega)];rw[wh _ _ (by omega) (by omega),nat_join 8 (a*16777216+b*65536+c*256) d (by omega) (by omega)]
theorem QG(n x j:Nat)(hn:n<2^(7*j))(hx:x<128)(hj:j<4):fO .or .i64 (n:Int) ((x*2^(7*j):Nat):Int)=((n+x*2^(7*j):Nat):Int):=by have h28:2^(7*j)<=2^21:=s8 (by decide) (by omega);have hm:x*2^(7*j)<=127*2^21:=Nat.mul_le_mul (by omega) h28;rw[wh _ _ (by omega) (by omega),Nat.or_comm,nat_join (7*j) (x*2^(7*j)) n (by simp) hn,Nat.add_comm]
theorem zv(m c j:Nat)(hm:m<2^(7*j))(hj:j<4)(hc:c<256):fO .or .i64 (m:Int) (RowKit.wrap64 (fO .and .i64 (c:Int) 127*((2^(7*j):Nat):Int)))=((m+c%128*128^j:Nat):Int):=by have h28:2^(7*j)<=2^21:=s8 (by decide) (by omega);have hx:c%128*2^(7*j)<=127*2^21:=Nat.mul_le_mul (by omega) h28;rw[i64_and127,show((c:Int)%128)=((c%128:Nat):Int)from by omega,<-Int.natCast_mul,Ga _ ⟨by omega,by omega⟩,QG m (c%128) j hm (by omega) hj];rw[show(128:Nat)=2^7 from rfl,<-Nat.pow_mul]
def b8(n:Nat):UInt8:=UInt8.ofNat n
theorem gJ(n:Nat)(h:n<256):(b8 n).toNat=n:=by simp[b8];omega
theorem zw(c:UInt8):b8 c.toNat=c:=by simp[b8]
theorem wi(n:Nat)(c:UInt8)(h:c.toNat=n):c=b8 n:=by rw[<-h,zw]
def iB:Nat->Nat->List UInt8|0,_=>[]|f+1,n=>if n<128 then[b8 n]else b8 (128+n%128)::iB f (n/128)
def df(n:Nat):List UInt8:=iB 10 n
def mz:Nat->Nat->Nat->List UInt8->Option (Nat×List UInt8)|0,_,_,_=>none|_+1,_,_,[]=>none|r+1,i,n,b::l=>if b.toNat=0/\0<i then none else if b.toNat<128 then some (n+b.toNat%128*128^i,l)else mz r (i+1) (n+b.toNat%128*128^i) l
def ky(l:List UInt8):Option (Nat×List UInt8):=mz 4 0 0 l
theorem Iv(acc m i:Nat):acc+m%128*128^i+m/128*128^(i+1)=acc+m*128^i:=by rw[s7,Nat.mul_comm (128^i) 128,<-Nat.mul_assoc,Nat.add_assoc,<-Nat.add_mul];rw[show m%128+m/128*128=m from by omega]
theorem QH(r:Nat):∀(i acc m f:Nat)(l:List UInt8),m<128^r->(i=0\/0<m)->0<r->r<=f->mz r i acc (iB f m++l)=some (acc+m*128^i,l):=by induction r with|zero=>intro i acc m f l _ _ h;omega|succ r ih=>intro i acc m f l hm h0 _ hf;obtain⟨f,rfl⟩:∃g,f=g+1:=⟨f-1,by omega⟩;unfold iB;by_cases hlt:m<128;{rw[if_pos hlt,eI,jP];unfold mz;rw[gJ m (by omega),if_neg (by omega),if_pos hlt,F9 hlt]};.rw[if_neg hlt,eI];unfold mz;rw[gJ _ (by omega),if_neg (by omega),if_neg (by omega)];(have hr:0<r:=by rcases r with _|r;{simp at hm;omega};.omega);rw[ih (i+1) _ (m/128) f l (by rw[s7]at hm;omega) (Or.inr (by omega)) hr (by omega)];rw[show(128+m%128)%128=m%128 from by omega,Iv]
theorem QI(r:Nat):∀(i acc n:Nat)(b l:List UInt8),mz r i acc b=some (n,l)->∃m,n=acc+m*128^i/\m<128^r/\(i=0\/0<m)/\∀f,r<=f->b=iB f m++l:=by induction r with|zero=>intro i acc n b l h;simp[mz]at h|succ r ih=>intro i acc n b l h;cases b with|nil=>simp[mz]at h|cons c b=>unfold mz at h;have hc:=c.toNat_lt;by_cases h0:c.toNat=0/\0<i;{rw[if_pos h0]at h;cases h};.rw[if_neg h0]at h;by_cases hlt:c.toNat<128;{rw[if_pos hlt]at h;simp only[c9,eQ]at h;obtain⟨h1,rfl⟩:=h;refine⟨c.toNat,by rw[<-h1,F9 hlt], ?_,by omega, ?_⟩;{have:128^1<=128^(r+1):=s8 (by decide) (by omega);omega};.intro f hf;obtain⟨f,rfl⟩:∃g,f=g+1:=⟨f-1,by omega⟩;unfold iB;rw[if_pos hlt,eI,jP,zw]};.rw[if_neg hlt]at h;obtain⟨m,h1,h2,h3,h4⟩:=ih _ _ _ _ _ h;(have hm:0<m:=by omega);refine⟨c.toNat%128+128*m, ?_,by rw[s7];omega,by omega, ?_⟩;{rw[h1,<-Iv acc (c.toNat%128+128*m) i];rw[show(c.toNat%128+128*m)%128=c.toNat%128 from by omega,show(c.toNat%128+128*m)/128=m from by omega]};.intro f hf;obtain⟨f,rfl⟩:∃g,f=g+1:=⟨f-1,by omega⟩;unfold iB;rw[if_neg (by omega),eI,h4 f (by omega)];rw[show(c.toNat%128+128*m)/128=m from by omega];rw[<-wi _ c (by omega)]
theorem zx(n:Nat)(l:List UInt8)(h:n<268435456):ky (df n++l)=some (n,l):=by have:=QH 4 0 0 n 10 l (by omega) (Or.inl rfl) (by omega) (by omega);simpa[ky,df]using this
theorem tO(n:Nat)(b l:List UInt8)(h:ky b=some (n,l)):b=df n++l/\n<268435456:=by obtain⟨m,h1,h2,_,h4⟩:=QI 4 0 0 n b l h;simp at h1;subst h1;exact⟨h4 10 (by omega),by omega⟩
def bj(n:Nat):List UInt8:=[b8 (n/16777216%256),b8 (n/65536%256),b8 (n/256%256),b8 (n%256)]
def p4:List UInt8->Option (Nat×List UInt8)|a::b::c::d::l=>some (a.toNat*16777216+b.toNat*65536+c.toNat*256+d.toNat,l)|_=>none
theorem CJ(n:Nat)(l:List UInt8)(h:n<4294967296):p4 (bj n++l)=some (n,l):=by simp only[bj,eI,jP,p4];rw[gJ _ (by omega),gJ _ (by omega),gJ _ (by omega),gJ _ (by omega)];simp only[c9,eQ,and_true];omega
theorem zy(n:Nat)(b l:List UInt8)(h:p4 b=some (n,l)):b=bj n++l/\n<4294967296:=by match b,h with|a::b::c::d::l',h=>have ha:=a.toNat_lt;have hb:=b.toNat_lt;have hc:=c.toNat_lt;have hd:=d.toNat_lt;simp only[p4,c9,eQ]at h;obtain⟨h1,rfl⟩:=h;refine⟨?_,by omega⟩;simp only[bj,eI,jP];rw[<-wi (n/16777216%256) a (by omega),<-wi (n/65536%256) b (by omega),<-wi (n/256%256) c (by omega),<-wi (n%256) d (by omega)]
def bit(s:List UInt8)(i:Nat):Nat:=if s[i]?=some 49 then 1 else 0
theorem jG(s:List UInt8)(i:Nat):bit s i<=1:=by unfold bit;split<;>omega
def ij(s:List UInt8)(j:Nat):Nat:=bit s (8*j)*128+bit s (8*j+1)*64+bit s (8*j+2)*32+bit s (8*j+3)*16+bit s (8*j+4)*8+bit s (8*j+5)*4+bit s (8*j+6)*2+bit s (8*j+7)
theorem wj(s:List UInt8)(j:Nat):ij s j<256:=by unfold ij;have h0:=jG s (8*j);have h1:=jG s (8*j+1);have h2:=jG s (8*j+2);have h3:=jG s (8*j+3);have h4:=jG s (8*j+4);have h5:=jG s (8*j+5);have h6:=jG s (8*j+6);have h7:=jG s (8*j+7);omega
def pack(s:List UInt8):List UInt8:=(eP ((s.length+7)/8)).map fun j=>b8 (ij s j)
def kz(p:List UInt8)(i:Nat):Nat:=(p.getD (i/8) 0).toNat/2^(7-i%8)%2
def sign(p:List UInt8)(i:Nat):UInt8:=b8 (48+kz p i)
def ik(n:Nat)(p:List UInt8):List UInt8:=(eP n).map (sign p)
def oP(s:List UInt8):Prop:=(∀c,c∈s->c=48\/c=49)/\s.length<=37
def fq(s:List UInt8):List UInt8:=df s.length++pack s
def jV(b:List UInt8):Option (List UInt8×List UInt8):=match ky b with|none=>none|some (n,l)=>if 37<n then none else if l.length<(n+7)/8 then none else if(49:UInt8)∈(ik (8*((n+7)/8)) (l.take ((n+7)/8))).drop n then none else some ((ik (8*((n+7)/8)) (l.take ((n+7)/8))).take n,l.drop ((n+7)/8))
theorem pH(n:Nat)(p:List UInt8):(ik n p).length=n:=by simp[ik]
theorem wo(n:Nat)(p:List UInt8)(i:Nat):(ik n p)[i]?=if i<n then some (sign p i)else none:=by unfold ik;rw[mQ];by_cases h:i<n;{rw[yE h,if_pos h];rfl};.rw[s9 (by simp;omega),if_neg h];rfl
theorem wq(p:List UInt8)(i:Nat):kz p i<=1:=by unfold kz;omega
theorem sign_one(p:List UInt8)(i:Nat):sign p i=49↔kz p i=1:=by have h:=wq p i;unfold sign;constructor;{intro e;have:=gJ (48+kz p i) (by omega);rw[e]at this;have wu:(49:UInt8).toNat=49:=rfl;omega};.intro e;rw[e];rfl
theorem QJ(p:List UInt8)(i:Nat):sign p i=48\/sign p i=49:=by have h:=wq p i;by_cases e:kz p i=1;{exact Or.inr ((sign_one p i).2 e)};.refine Or.inl ?_;unfold sign;rw[show kz p i=0 from by omega];rfl
theorem QK(n:Nat)(p:List UInt8)(i:Nat):bit (ik n p) i=if i<n then kz p i else 0:=by have h:=wq p i;unfold bit;rw[wo];by_cases hn:i<n;{rw[if_pos hn,if_pos hn];by_cases e:kz p i=1;{rw[(sign_one p i).2 e,if_pos rfl,e]};.rw[if_neg (by intro h';exact e ((sign_one p i).1 (ib h')))];omega};.rw[if_neg hn,if_neg hn,if_neg (by intro h';cases h')]
theorem wv(s:List UInt8)(n i:Nat):bit (s.take n) i=if i<n then bit s i else 0:=by unfold bit;rw[pk];by_cases h:i<n;{rw[if_pos h,if_pos h]};.rw[if_neg h,if_neg h,if_neg (by intro h';cases h')]
theorem tP(s:List UInt8):(pack s).length=(s.length+7)/8:=by simp[pack]
theorem QL(s:List UInt8)(j:Nat)(h:j<(s.length+7)/8):((pack s).getD j 0).toNat=ij s j:=by unfold pack;rw[rL,mQ,yE h,iy,bu];exact gJ _ (wj s j)
theorem QM(s:List UInt8)(i:Nat)(h:s.length<=i):bit s i=0:=by unfold bit;rw[s9 h,if_neg (by intro h';cases h')]
theorem QN(v a0 a1 a2 a3 a4 a5 a6 a7 k:Nat)(h0:a0<=1)(h1:a1<=1)(h2:a2<=1)(h3:a3<=1)(h4:a4<=1)(h5:a5<=1)(h6:a6<=1)(h7:a7<=1)(hv:v=a0*128+a1*64+a2*32+a3*16+a4*8+a5*4+a6*2+a7)(hk:k<8):v/2^(7-k)%2=[a0,a1,a2,a3,a4,a5,a6,a7].getD k 0:=by match k,hk with|0,_=>simp;omega|1,_=>simp;omega|2,_=>simp;omega|3,_=>simp;omega|4,_=>simp;omega|5,_=>simp;omega|6,_=>simp;omega|7,_=>simp;omega
theorem Iw(s:List UInt8)(i:Nat)(h:i/8<(s.length+7)/8):kz (pack s) i=bit s i:=by
 unfold kz;rw[QL s _ h];have hb:=jG s;rw[QN (ij s (i/8)) _ _ _ _ _ _ _ _ (i%8) (hb _) (hb _) (hb _) (hb _) (hb _) (hb _) (hb _) (hb _) rfl (by omega)];have e:∀k,i%8=k->8*(i/8)+k=i:=fun k hk=>by omega
 have hm:i%8<8:=by omega
 generalize hk:i%8=k at*;match k,hm with|0,_=>simp;congr 1;omega|1,_=>simp;congr 1;omega|2,_=>simp;congr 1;omega|3,_=>simp;congr 1;omega|4,_=>simp;congr 1;omega|5,_=>simp;congr 1;omega|6,_=>simp;congr 1;omega|7,_=>simp;congr 1;omega
theorem QO(v:Nat)(h:v<256):v/128%2*128+v/64%2*64+v/32%2*32+v/16%2*16+v/8%2*8+v/4%2*4+v/2%2*2+v%2=v:=by omega
theorem QP(s p:List UInt8)(j:Nat)(h:∀k,k<8->bit s (8*j+k)=kz p (8*j+k)):ij s j=(p.getD j 0).toNat:=by
 unfold ij;rw[show 8*j=8*j+0 from rfl];rw[h 0 (by omega),show 8*j+0+1=8*j+1 from rfl,h 1 (by omega),h 2 (by omega),h 3 (by omega),h 4 (by omega),h 5 (by omega),h 6 (by omega),h 7 (by omega)];unfold kz;have hd:∀k,k<8->(8*j+k)/8=j:=fun k hk=>by omega
 have hm:∀k,k<8->(8*j+k)%8=k:=fun k hk=>by omega
 rw[hd 0 (by omega),hd 1 (by omega),hd 2 (by omega),hd 3 (by omega),hd 4 (by omega),hd 5 (by omega),hd 6 (by omega),hd 7 (by omega)];rw[hm 0 (by omega),hm 1 (by omega),hm 2 (by omega),hm 3 (by omega),hm 4 (by omega),hm 5 (by omega),hm 6 (by omega),hm 7 (by omega)];have hv:=(p.getD j 0).toNat_lt;have:=QO (p.getD j 0).toNat (by omega);simpa using this
theorem QQ(s:List UInt8)(h:oP s)(i:Nat)(hi:i<s.length):s[i]?=some (b8 (48+bit s i)):=by have hm:=h.1 s[i] (List.getElem_mem hi);rw[e4 hi];unfold bit;rw[e4 hi];rcases hm with e|e;{rw[e,if_neg (by decide)];rfl};.rw[e,if_pos rfl];rfl
theorem QR(s:List UInt8)(h:oP s):(ik (8*((s.length+7)/8)) (pack s)).take s.length=s:=by apply List.ext_getElem?;intro i;rw[pk];by_cases hi:i<s.length;{rw[if_pos hi,wo,if_pos (by omega),QQ s h i hi];unfold sign;rw[Iw s i (by omega)]};.rw[if_neg hi,s9 (by omega)]
theorem QS(s:List UInt8):(49:UInt8)∉(ik (8*((s.length+7)/8)) (pack s)).drop s.length:=by intro hm;obtain⟨i,hi,e⟩:=List.mem_iff_getElem.1 hm;(have e2:((ik (8*((s.length+7)/8)) (pack s)).drop s.length)[i]?=some 49:=by rw[e4 hi,e]);rw[acA,wo]at e2;by_cases hn:s.length+i<8*((s.length+7)/8);{rw[if_pos hn]at e2;have:=(sign_one _ _).1 (ib e2);rw[Iw s _ (by omega),QM s _ (by omega)]at this;omega};.rw[if_neg hn]at e2;cases e2
theorem CK(s l:List UInt8)(h:oP s):jV (fq s++l)=some (s,l):=by unfold jV fq;have h37:=h.2;rw[dS,zx _ _ (by omega)];simp only;have hp:=tP s;rw[if_neg (by omega),if_neg (by rw[bH];omega)];rw[<-hp,List.take_left,rH,hp,if_neg (QS s),QR s h]
theorem QT(n:Nat)(p:List UInt8)(hp:p.length=(n+7)/8)(h:(49:UInt8)∉(ik (8*((n+7)/8)) p).drop n):pack ((ik (8*((n+7)/8)) p).take n)=p:=by
 have hlen:((ik (8*((n+7)/8)) p).take n).length=n:=by rw[iL,pH];omega
 have hz:∀i,n<=i->i<8*((n+7)/8)->kz p i=0:=by intro i h1 h2;have:=wq p i;by_cases e:kz p i=1;{exfalso;apply h;refine List.mem_of_getElem? (i:=i-n) ?_;rw[acA,wo,if_pos (by omega),show n+(i-n)=i from by omega,(sign_one p i).2 e]};.omega
 apply List.ext_getElem?;intro j;unfold pack;rw[hlen,mQ];by_cases hj:j<(n+7)/8;{rw[yE hj,iy,QP _ p j ?_];{rw[zw,rL,e4 (by omega),bu]};.intro k hk;rw[wv,QK];by_cases hn:8*j+k<n;{rw[if_pos hn,if_pos (by omega)]};.rw[if_neg hn,hz _ (by omega) (by omega)]};.rw[s9 (by simp;omega),Option.map_none,s9 (by omega)]
theorem tQ(b s l:List UInt8)(h:jV b=some (s,l)):b=fq s++l/\oP s:=by unfold jV at h;cases hn:ky b with|none=>rw[hn]at h;cases h|some x=>obtain⟨n,l'⟩:=x;rw[hn]at h;simp only at h;obtain⟨hb,_⟩:=tO n b l' hn;by_cases h37:37<n;{rw[if_pos h37]at h;cases h};.rw[if_neg h37]at h;by_cases hl:l'.length<(n+7)/8;{rw[if_pos hl]at h;cases h};.rw[if_neg hl]at h;by_cases hc:(49:UInt8)∈(ik (8*((n+7)/8)) (l'.take ((n+7)/8))).drop n;{rw[if_pos hc]at h;cases h};.rw[if_neg hc]at h;simp only[c9,eQ]at h;obtain⟨h1,h2⟩:=h;(have hlen:s.length=n:=by rw[<-h1,iL,pH];omega);have hp:=QT n (l'.take ((n+7)/8)) (by rw[iL];omega) hc;rw[h1]at hp;refine⟨?_, ?_,by omega⟩;{unfold fq;rw[hp,hlen,dS,<-h2,vu];exact hb};.intro c hc';rw[<-h1]at hc';have:=List.mem_of_mem_take hc';unfold ik at this;obtain⟨i,_,rfl⟩:=List.mem_map.1 this;exact QJ _ i
def pI(b:List UInt8):Option (List UInt8×List UInt8):=match ky b with|none=>none|some (n,l)=>if 20<n then none else if l.length<n then none else some (l.take n,l.drop n)
def oQ(v:List UInt8):List UInt8:=df v.length++v
theorem QU(v l:List UInt8)(h:v.length<=20):pI (oQ v++l)=some (v,l):=by unfold pI oQ;rw[dS,zx _ _ (by omega)];simp only;rw[if_neg (by omega),if_neg (by rw[bH];omega),List.take_left,rH]
theorem QV(b v l:List UInt8)(h:pI b=some (v,l)):b=oQ v++l/\v.length<=20:=by unfold pI at h;cases hn:ky b with|none=>rw[hn]at h;cases h|some x=>obtain⟨n,l'⟩:=x;rw[hn]at h;simp only at h;obtain⟨hb,_⟩:=tO n b l' hn;by_cases h20:20<n;{rw[if_pos h20]at h;cases h};.rw[if_neg h20]at h;by_cases hl:l'.length<n;{rw[if_pos hl]at h;cases h};.rw[if_neg hl]at h;simp only[c9,eQ]at h;obtain⟨h1,h2⟩:=h;(have hlen:v.length=n:=by rw[<-h1,iL];omega);refine⟨?_,by omega⟩;unfold oQ;rw[hlen,dS,<-h1,<-h2,vu];exact hb
structure aX where
 kind:Int
 path:List UInt8
 value:List UInt8
 left:Int
 right:Int
 deriving DecidableEq
def gV(s:List UInt8):Bool:=s.all (fun c=>c==48||c==49)&&decide (s.length<=37)
theorem lS(s:List UInt8):gV s=true↔oP s:=by simp[gV,oP]
def fH(n:Int):Bool:=decide (0<=n/\n<4294967296)
def empty:aX:=⟨2,[],[],0,0⟩
def dt(n:aX):Option (List UInt8):=if n=empty then some [2]else if n.kind=0/\gV n.path=true/\n.value.length<=20/\n.left=0/\n.right=0 then some (0::(fq n.path++oQ n.value))else if n.kind=1/\gV n.path=true/\n.value=[]/\fH n.left=true/\fH n.right=true then some (1::(fq n.path++(bj n.left.toNat++bj n.right.toNat)))else none
def wx(l:List UInt8):Option (aX×List UInt8):=match jV l with|none=>none|some (p,l1)=>match pI l1 with|none=>none|some (v,l2)=>some (⟨0,p,v,0,0⟩,l2)
def wy(l:List UInt8):Option (aX×List UInt8):=match jV l with|none=>none|some (p,l1)=>match p4 l1 with|none=>none|some (x,l2)=>match p4 l2 with|none=>none|some (y,l3)=>some (⟨1,p,[],x,y⟩,l3)
def nY:List UInt8->Option (aX×List UInt8)|[]=>none|c::l=>if c=0 then wx l else if c=1 then wy l else if c=2 then some (empty,l)else none
def pJ(b:List UInt8):Option aX:=match nY b with|some (n,[])=>some n|_=>none
theorem QW(n:aX)(b l:List UInt8)(h:dt n=some b):nY (b++l)=some (n,l):=by unfold dt at h;by_cases h0:n=empty;{rw[if_pos h0]at h;cases h;subst h0;rfl};.rw[if_neg h0]at h;by_cases h1:n.kind=0/\gV n.path=true/\n.value.length<=20/\n.left=0/\n.right=0;{rw[if_pos h1]at h;cases h;obtain⟨k,p,v,x,y⟩:=n;simp only at h1;obtain⟨rfl,hp,hv,rfl,rfl⟩:=h1;simp only[eI,dS,nY,if_true,wx];rw[CK _ _ ((lS p).1 hp)];simp only;rw[QU _ _ hv]};.rw[if_neg h1]at h;by_cases h2:n.kind=1/\gV n.path=true/\n.value=[]/\fH n.left=true/\fH n.right=true;{rw[if_pos h2]at h;cases h;obtain⟨k,p,v,x,y⟩:=n;simp only at h2;obtain⟨rfl,hp,rfl,hx,hy⟩:=h2;simp only[fH,decide_eq_true_eq]at hx hy;simp only[eI,dS,nY,wy];rw[if_neg (by decide),if_pos trivial,CK _ _ ((lS p).1 hp)];simp only;rw[CJ _ _ (by omega)];simp only;rw[CJ _ _ (by omega)];simp only[c9,eQ,aX.mk.injEq,and_true,true_and];omega};.rw[if_neg h2]at h;cases h
theorem QX(n:aX)(b l:List UInt8)(h:nY b=some (n,l)):∃c,dt n=some c/\b=c++l:=by match b,h with|c::b,h=>unfold nY at h;simp only at h;by_cases h0:c=0;{rw[if_pos h0]at h;unfold wx at h;cases hp:jV b with|none=>rw[hp]at h;cases h|some x=>obtain⟨p,l1⟩:=x;rw[hp]at h;simp only at h;cases hv:pI l1 with|none=>rw[hv]at h;cases h|some y=>obtain⟨v,l2⟩:=y;rw[hv]at h;simp only[c9,eQ]at h;obtain⟨rfl,rfl⟩:=h;obtain⟨e1,i1⟩:=tQ _ _ _ hp;obtain⟨e2,i2⟩:=QV _ _ _ hv;refine⟨0::(fq p++oQ v), ?_,by rw[h0,e1,e2];simp⟩;unfold dt;rw[if_neg (by simp[empty]),if_pos ⟨rfl,(lS p).2 i1,i2,rfl,rfl⟩]};.rw[if_neg h0]at h;by_cases h1:c=1;{rw[if_pos h1]at h;unfold wy at h;cases hp:jV b with|none=>rw[hp]at h;cases h|some x=>obtain⟨p,l1⟩:=x;rw[hp]at h;simp only at h;cases hx:p4 l1 with|none=>rw[hx]at h;cases h|some y=>obtain⟨x,l2⟩:=y;rw[hx]at h;simp only at h;cases hy:p4 l2 with|none=>rw[hy]at h;cases h|some z=>obtain⟨y,l3⟩:=z;rw[hy]at h;simp only[c9,eQ]at h;obtain⟨rfl,rfl⟩:=h;obtain⟨e1,i1⟩:=tQ _ _ _ hp;obtain⟨e2,i2⟩:=zy _ _ _ hx;obtain⟨e3,i3⟩:=zy _ _ _ hy;refine⟨1::(fq p++(bj x++bj y)), ?_,by rw[h1,e1,e2,e3];simp⟩;unfold dt;rw[if_neg (by simp[empty]),if_neg (by simp),if_pos ⟨rfl,(lS p).2 i1,rfl,by simp[fH];omega,by simp[fH];omega⟩];simp};.rw[if_neg h1]at h;by_cases h2:c=2;{rw[if_pos h2]at h;simp only[c9,eQ]at h;obtain⟨rfl,rfl⟩:=h;exact⟨[2],rfl,by rw[h2];rfl⟩};.rw[if_neg h2]at h;cases h
theorem QY(n:aX)(b:List UInt8)(h:dt n=some b):pJ b=some n:=by have:=QW n b [] h;rw[jQ]at this;unfold pJ;rw[this]
theorem QZ(n:aX)(b:List UInt8)(h:pJ b=some n):dt n=some b:=by unfold pJ at h;cases hp:nY b with|none=>rw[hp]at h;cases h|some x=>obtain⟨m,l⟩:=x;rw[hp]at h;cases l with|nil=>simp only[c9]at h;subst h;obtain⟨c,h1,h2⟩:=QX _ _ _ hp;rw[jQ]at h2;rw[h2];exact h1|cons c l=>cases h
end Go.Proofs.YtddcbeeldjjmeaaGreatDoor.bg
namespace Go.Proofs.YtddcbeeldjjmeaaGreatDoor.fR
open Go.RowKit
def pK(h c:Nat):Nat:=((h^^^c)*16777619)%4294967296
def r1(a:Nat)(l:List UInt8):Nat:=l.foldl (fun h c=>pK h c.toNat) a
theorem CL(a:Nat):r1 a []=a:=rfl
theorem CM(a:Nat)(c:UInt8)(l:List UInt8):r1 a (c::l)=r1 (pK a c.toNat) l:=rfl
theorem Q2(a:Nat)(l:List UInt8)(c:UInt8):r1 a (l++[c])=pK (r1 a l) c.toNat:=by induction l generalizing a with|nil=>rw[jP,CM,CL,CL]|cons d l ih=>rw[eI,CM,CM,ih]
theorem Q3(h c:Nat):pK h c<4294967296:=by unfold pK;omega
theorem Q4(l:List UInt8):∀a,a<4294967296->r1 a l<4294967296:=by induction l with|nil=>intro a ha;exact ha|cons c l ih=>intro a _;exact ih _ (Q3 _ _)
def start:Nat:=2166136261
theorem Ix:start=2166136261:=by unfold start;exact Eq.refl _
def lT(l:List UInt8):Nat:=r1 start l
def b9(w:Nat)(l:List UInt8):Nat:=(lT l^^^lT l/32768)%2^w
theorem Q5(l:List UInt8):lT l<4294967296:=Q4 l _ (by rw[Ix];omega)
theorem Q6:lT []=2166136261:=by unfold lT;rw[CL,Ix]
theorem Q7(l:List UInt8)(c:UInt8):lT (l++[c])=pK (lT l) c.toNat:=Q2 start l c
theorem Q8(s:ByteArray)(k:Nat)(h:k<s.size):s.data.toList.take (k+1)=s.data.toList.take k++[s[k]]:=by rw[List.take_succ_eq_append_getElem (by simpa using h)];rfl
theorem Q9(s:ByteArray)(k:Nat)(h:k<s.size):lT (s.data.toList.take (k+1))=pK (lT (s.data.toList.take k)) s[k].toNat:=by rw[Q8 s k h,Q7]
theorem Iy(s:ByteArray):s.data.toList.take s.size=s.data.toList:=List.take_of_length_le (by simp)
theorem Ra(a b:Nat)(ha:a<4294967296)(hb:b<4294967296):a^^^b<4294967296:=by have:=Nat.xor_lt_two_pow (n:=32) (by simpa using ha) (by simpa using hb);simpa using this
theorem we(a:Nat)(ha:a<9223372036854775808):(yD 64 (a:Int)).toNat=a:=by rw[acx,acy];exact F9 (by omega)
theorem Rb(a b:Nat)(ha:a<9223372036854775808)(hb:b<9223372036854775808):bits .and .i64 (a:Int) (b:Int)=((a&&&b:Nat):Int):=by have hx:a&&&b<2^63:=Nat.and_lt_two_pow _ (by omega);show IntKind.i64.wrap ((yD 64 (a:Int)&&&yD 64 (b:Int)).toNat:Int)=_;rw[BitVec.toNat_and,we a ha,we b hb,IntKind.wrap_i64];omega
theorem CN(n:Nat)(h:n<=32):2^n<=4294967296:=by have:=s8 (n:=2) (by decide) h;simpa using this
theorem Iz(n:Nat):1<=2^n:=Nat.one_le_two_pow
theorem Rc(n h:Nat)(hn:n<=32)(hh:h<4294967296):bits .and .i64 (wrap64 (bits .xor .u32 (h:Int) ((h:Int)/32768))) (wrap64 (wrap64 (2^n)-1))=(((h^^^h/32768)%2^n:Nat):Int):=by
 have e1:bits .xor .u32 (h:Int) ((h:Int)/32768)=((h^^^h/32768:Nat):Int):=by rw[show((h:Int)/32768)=((h/32768:Nat):Int)from by omega];exact u32_xor_nat h (h/32768) hh (by omega)
 have hx:=Ra h (h/32768) hh (by omega);have hp:=CN n hn;have hp1:=Iz n;have e2:((2:Int)^n)=((2^n:Nat):Int):=by simp
 rw[e1,e2];generalize h^^^h/32768=x at hx⊢;generalize hP:2^n=P at hp hp1⊢;have e3:wrap64 (x:Int)=(x:Int):=Ga _ ⟨by omega,by omega⟩;have bj:wrap64 (wrap64 (P:Int)-1)=((P-1:Nat):Int):=by rw[Ga (P:Int) ⟨by omega,by omega⟩,Ga _ ⟨by omega,by omega⟩];omega
 rw[e3,bj,Rb x (P-1) (by omega) (by omega),<-hP,Nat.and_two_pow_sub_one_eq_mod]
theorem Re(h c:Nat)(hh:h<4294967296)(hc:c<256):bits .xor .u32 (h:Int) ((c:Int)%4294967296)*16777619%4294967296=((pK h c:Nat):Int):=by rw[show((c:Int)%4294967296)=((c:Nat):Int)from by omega,u32_xor_nat h c hh (by omega)];unfold pK;omega
