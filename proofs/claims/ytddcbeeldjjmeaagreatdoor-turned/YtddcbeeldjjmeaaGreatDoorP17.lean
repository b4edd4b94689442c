/- What a reader's step. -/
import Derived.Test.YtddcbeeldjjmeaaGreatDoorProg
import Derived.Handy
import Derived.BigQuiet
import Derived.Lib.BufferWrite
import Derived.Lib.MinMax
import Derived.WalkSpells
import Derived.Test.YtddcbeeldjjmeaaGreatDoorP16
set_option maxRecDepth 20000
set_option maxHeartbeats 1000000
open ByteArray renaming data_extract->Fo,ext->Z3,size->xn
open Go renaming Addr->aq,Calls->aH,Value->ae,World->aa,bits->lP,cell_one_new->ld,info_parts->kr,madeCells->kZ,maxLen->de,wpList_append_own->fV
open Go.Proofs.Tryz renaming prog->ag,underlying100->iq
open Go.Value renaming int->gv,ownBlock->gZ
open List renaming getElem?_eq_getElem->hA,getElem?_eq_none->Z4,getElem?_map->sh,getElem?_range->MT,length_append->cm,replicate->MS
open Option renaming map_some->iE
namespace Go.Proofs.YtddcbeeldjjmeaaGreatDoor.au
open Go.RowKit bp
set_option linter.unusedVariables false
set_option linter.unusedSimpArgs false
def S(l:List UInt8):ByteArray:=⟨l.toArray⟩
theorem oq(l:List UInt8):(S l).size=l.length:=by simp[S,xn]
theorem yy(l:List UInt8):(S l).data.toList=l:=by simp[S]
theorem Hr(s:ByteArray):S s.data.toList=s:=by cases s;simp[S]
structure aap(a:aq)(l':List UInt8)(w w':aa):Prop where
 os:w'.os=w.os
 tape:w'.tape=w.tape
 output:w'.output=w.output
 size:w.heap.size<=w'.heap.size
 block:∀k,k<w.heap.size->k≠a.block->w'.heap[k]?=w.heap[k]?
 rest:w'.cell? a=some (.string (S l'))
 mark:w'.frozen? a=false
theorem bL{w:aa}{a:aq}{v:ae}(h:w.cell? a=some v):a.block<w.heap.size:=by by_cases hb:a.block<w.heap.size;{exact hb};. (have:w.heap[a.block]?=none:=by simp;omega);simp[World.cell?,this]at h
theorem Pu{B:Nat}{a w:aa}(h:Below B a w)(b o:Nat)(v:ae)(hb:B<=b):Below B a (w.setCell ⟨b,o,none⟩ v):=h.setCell (p:=⟨b,o,none⟩) hb v
theorem Pv(l:List UInt8)(k:Nat):(S l).extract 0 k=S (l.take k):=by apply Z3;simp[S,Fo]
theorem Pw(l:List UInt8)(k:Nat):(S l).extract k l.length=S (l.drop k):=by apply Z3;simp only[S,Fo];apply Array.ext';simp only[Array.toList_extract,List.extract_eq_take_drop];exact List.take_of_length_le (by simp)
theorem Hs(l:List UInt8)(i:Nat)(h:i<(S l).size):(S l)[i]'h=l[i]'(by rw[oq]at h;exact h):=by simp[S,ByteArray.getElem_eq_getElem_data]
def ez(l:List UInt8):List ae:=l.map fun c=>gv .u8 c.toNat
def iJ(w:aa)(g:Nat)(l:List UInt8):Prop:=w.heap[g]?=some (.cells (ez l).toArray 5 (0,0))
theorem iJ.lt{w:aa}{g:Nat}{l:List UInt8}(h:iJ w g l):g<w.heap.size:=by by_cases hb:g<w.heap.size;{exact hb};. (have:w.heap[g]?=none:=by simp;omega);unfold iJ at h;rw[this]at h;cases h
theorem iJ.cell{w:aa}{g:Nat}{l:List UInt8}(h:iJ w g l)(k:Nat)(hk:k<l.length):w.cell? ⟨g,k,none⟩=some (.int .u8 (l[k]'hk).toNat):=by unfold iJ at h;simp[World.cell?,h,ez,hk]
theorem iJ.mark{w:aa}{g:Nat}{l:List UInt8}(h:iJ w g l)(k:Nat):w.frozen? ⟨g,k,none⟩=false:=by unfold iJ at h;simp[World.frozen?,h]
theorem iJ.set{w:aa}{g:Nat}{l:List UInt8}(h:iJ w g l)(k:Nat)(c:UInt8)(x:Int)(e:x=c.toNat):iJ (w.setCell ⟨g,k,none⟩ (.int .u8 x)) g (l.set k c):=by unfold iJ at h⊢;subst e;have hg:=iJ.lt h;simp[World.setCell,Array.getElem?_modify,h,ez,List.map_set]
theorem Px(n:Nat):kZ (gv .u8 0).cells n=(ez (MS n 0)).toArray:=by apply Array.ext';apply List.ext_getElem;{simp[kZ,ez,Value.cells]};.intro i h1 h2;simp[kZ,ez,Value.cells,Nat.mod_one]
theorem iJ.new(w:aa)(n:Nat):iJ (w.alloc (.cells (kZ (gv .u8 0).cells n) 5)) w.heap.size (MS n 0):=by unfold iJ;rw[Px];exact heap_alloc_new w _
def kJ(n:bG):ae:= .agg #[.int .i64 n.kind, .string (S n.path), .string (S n.value), .int .i64 n.left, .int .i64 n.right]
theorem pK:(Tryz.prog.info? 5).map (fun i=>(i.zero,i.size,i.bytes))=some (some (.int .u8 0),1,1):=by kernel_rfl
def Own(base:Nat)(w:aa)(v:ae)(l:List UInt8):Prop:=w.ownsRow base 5 1 v l.length (ez l)
def yz(base:Nat)(w:aa)(l:List UInt8)(e:Ending)(w':aa):Prop:=∃v,e= .returned v/\Own base w' v l/\Below base w w'
theorem yA(f m:Nat)(h:m<128):iU (f+1) m=[dG m]:=by unfold iU;rw[if_pos h]
theorem yB(f m:Nat)(h:¬m<128):iU (f+1) m=dG (128+m%128)::iU f (m/128):=by rw[iU,if_neg h]
theorem B8(a b:List UInt8):ez (a++b)=ez a++ez b:=by simp[ez]
theorem pL(f m:Nat):(iU f m).length<=f:=by induction f generalizing m with|zero=>simp[iU]|succ f ih=>by_cases h:m<128;{rw[yA f m h];simp};.rw[yB f m h,List.length_cons];have:=ih (m/128);omega
theorem Py(l:List UInt8)(c:UInt8):ez l++[.int .u8 c.toNat]=ez (l++[c]):=by simp[ez]
theorem Own.block{base:Nat}{w:aa}{v:ae}{l:List UInt8}(h:Own base w v l):∀k,v.ownBlock=some k->base<=k:=by intro k hk;obtain⟨_,⟨rfl,_⟩|⟨g,cap,cur,rfl,hg,_⟩⟩:=h;{simp[gZ]at hk};.simp[gZ]at hk;omega
theorem Own.snoc{base:Nat}{w1:aa}{v':ae}{l:List UInt8}{x:Int}(c:UInt8)(hx:x=c.toNat)(h:w1.ownsRow base 5 1 v' (l.length+1) (ez l++[.int .u8 x])):Own base w1 v' (l++[c]):=by unfold Own;subst hx;rw[Py]at h;rw[cm];exact h
theorem Ht(m:Nat)(hm:m<268435456):(lP .or .i64 (lP .and .i64 (m:Int) 127) 128)%256=((dG (128+m%128)).toNat:Int):=by rw[i64_and127,show((m:Int)%128)=((m%128:Nat):Int)from by omega,show(128:Int)=((128:Nat):Int)from rfl,Pg _ _ (by omega) (by omega),Nat.or_comm,nat_join 7 128 (m%128) (by decide) (by omega),oo _ (by omega)];omega
theorem yC(base:Nat)(v:ae)(l:List UInt8)(n:Nat)(w:aa)(hn:n<268435456)(hl:l.length<=1000)(hown:Own base w v l)(hbase:base<=w.heap.size):aH ag 124 #[v, .int .i64 n] w fun e w'=>yz base w (l++cU n) e w':=by obtain⟨i0,hi,hz0,hz1,hz2⟩:=kr pK;go_enter Tryz.func124,Tryz.ntmps124;go_wp2;go_loopw[0,1](fun v x wr=>∃(l':List UInt8)(m f:Nat),l'++iU f m=l++cU n/\m<128^f/\1<=f/\m<268435456/\l'.length+f<=1010/\Own base wr v l'/\Below base w wr/\base<=wr.heap.size/\x= .int .i64 m)(fun _ x _=>(intOf x).toNat);(case atStart=>exact⟨l,n,10,rfl,by omega,by omega,hn,by omega,hown,Below.refl _ _,hbase,rfl⟩);case round=>obtain⟨l',m,f,he,hm,hf,B9,hlen,hown',hb,hbr,rfl⟩:=hrel;have HA:Hid (l'++iU f m=l++cU n/\m<128^f/\1<=f):=⟨he,hm,hf⟩;clear he hm hf;unfold Own at hown';by_cases hlt:m<128;{go_wp2_with(at_builtin;refine fV _ rfl (.tmp 16) (.tmp 19) 100 rfl base 5 i0 (.int .u8 0) 1 1 iq hi hz0 hz1 hz2 rfl (by decide) _ _ _ rfl (hown'.alloc _) ⟨wr.heap.size,0,none⟩ 1 1 _ rfl rfl (ld _ _ _) ?c2 ?c3 ?c4 ?c5 ?_);(case c2=>intro u hu;simp at hu;subst hu;rfl);(case c3=>unfold de;omega);(case c4=>omega);(case c5=>simp;omega);.intro v' w1 hown1 hgrow _;have hO:=Own.snoc (dG m) (by rw[oo m (by omega)]) hown1;have hB:=(hb.alloc hbr _).grown hgrow (by simp;omega) (Own.block hown');obtain⟨he,hm,hf⟩:=HA.out;obtain⟨f,rfl⟩:∃g,f=g+1:=⟨f-1,by omega⟩;rw[yA f m hlt]at he;rw[he]at hO;clear he hm hown1 hgrow hown' hb;go_wp2;go_ret;exact⟨_,rfl,hO,hB⟩};. (have h127:127<(m:Int):=by omega);go_wp2_with(at_builtin;refine fV _ rfl (.tmp 9) (.tmp 14) 100 rfl base 5 i0 (.int .u8 0) 1 1 iq hi hz0 hz1 hz2 rfl (by decide) _ _ _ rfl (hown'.alloc _) ⟨wr.heap.size,0,none⟩ 1 1 _ rfl rfl (ld _ _ _) ?c2 ?c3 ?c4 ?c5 ?_);(case c2=>intro u hu;simp at hu;subst hu;rfl);(case c3=>unfold de;omega);(case c4=>omega);(case c5=>simp;omega);.intro v' w1 hown1 hgrow _;have hO:=Own.snoc (dG (128+m%128)) (Ht m B9) hown1;have hB:=(hb.alloc hbr _).grown hgrow (by simp;omega) (Own.block hown');have hsz:=hgrow.size;have HO:Hid _:=hO;have HB:Hid _:=hB;have HZ:Hid _:=hsz;clear hown1 hgrow hown' hb hO hB hsz;go_wp2;go_roundw;(case rel=>obtain⟨he,hm,hf⟩:=HA.out;obtain⟨f,rfl⟩:∃g,f=g+1:=⟨f-1,by omega⟩;rw[yB f m hlt]at he;(have hf1:1<=f:=by rcases f with _|f;{simp at hm;omega};.omega);refine⟨l'++[dG (128+m%128)],m/128,f,by rw[<-he];simp,by rw[Nat.pow_succ]at hm;omega,hf1,by omega,by rw[cm];simp;omega,HO.out,HB.out, ?_,by go_num⟩;have:=HZ.out;simp at this;omega);case measure=>simp[intOf];omega
theorem Hu(l:List UInt8):Lib.strCells (S l)=ez l:=by simp[Lib.strCells,ez,S]
theorem Pz(base:Nat)(v:ae)(l s:List UInt8)(w:aa)(hs:s.length<=1000)(hl:l.length<=500)(hown:Own base w v l)(hbase:base<=w.heap.size):aH ag 125 #[v, .string (S s)] w fun e w'=>yz base w (l++cU s.length++s) e w':=by
 obtain⟨i0,hi,hz0,hz1,hz2⟩:=kr pK;have hk:=yC base v l s.length w (by omega) (by omega) hown hbase;have hss:=oq s;have hel:(cU s.length).length<=10:=pL 10 s.length;go_enter Tryz.func125,Tryz.ntmps125;go_wp2_with fail;refine hk.mono ?_;rintro e w1 ⟨v1,rfl,fZ,hB1⟩;unfold Own at fZ;go_wp2_with(at_builtin;refine Lib.wpList_append_own_string _ rfl (.tmp 8) (.tmp 9) 100 9 rfl base 5 i0 iq Tryz.underlying9 hi hz0 hz1 hz2 _ _ _ rfl fZ _ rfl ?c3 ?c4 ?c5 ?_);case c3=>rw[hss,cm];unfold de;omega
 case c4=>rw[hss,cm];omega
 case c5=>have:=hB1.size;omega
 intro v' w2 hown2 hgrow _;have hO:Own base w2 v' (l++cU s.length++s):=by unfold Own;rw[Hu]at hown2;rw[cm,cm,B8];exact hown2
 have hB:=hB1.grown hgrow (by have:=hB1.size;omega) (Own.block fZ);clear hown2 hgrow fZ hB1 hel;go_wp2;go_ret;exact⟨_,rfl,hO,hB⟩
theorem PC(w:aa)(a b c d:ae)(t:TypeId):∀j u,[a,b,c,d][j]?=some u->(w.alloc (.cells #[a,b,c,d] t)).cell? ((⟨w.heap.size,0,none⟩:aq).add j)=some u:=by intro j u hj;match j,hj with|0,hj=>simp at hj;subst hj;simp[Addr.add]|1,hj=>simp at hj;subst hj;simp[Addr.add]|2,hj=>simp at hj;subst hj;simp[Addr.add]|3,hj=>simp at hj;subst hj;simp[Addr.add]|j+4,hj=>simp at hj
theorem yD(base:Nat)(v:ae)(l:List UInt8)(n:Int)(w:aa)(h0:0<=n)(hn:n<4294967296)(hl:l.length<=1000000)(hown:Own base w v l)(hbase:base<=w.heap.size):aH ag 126 #[v, .int .i64 n] w fun e w'=>yz base w (l++e4 n.toNat) e w':=by
 obtain⟨N,rfl⟩:=Int.eq_ofNat_of_zero_le h0;obtain⟨i0,hi,hz0,hz1,hz2⟩:=kr pK;have hown0:=hown;unfold Own at hown;go_enter Tryz.func126,Tryz.ntmps126;go_wp2_with(at_builtin;refine fV _ rfl (.tmp 5) (.tmp 17) 100 rfl base 5 i0 (.int .u8 0) 1 1 iq hi hz0 hz1 hz2 rfl (by decide) _ _ _ rfl (hown.alloc _) ⟨w.heap.size,0,none⟩ 4 4 _ rfl rfl (PC _ _ _ _ _ _) ?c2 ?c3 ?c4 ?c5 ?_);case c2=>intro u hu;simp at hu;rcases hu with rfl|rfl|rfl|rfl<;>rfl
 case c3=>unfold de;omega
 case c4=>omega
 case c5=>simp;omega
 intro v' w1 hown1 hgrow _;have hO:Own base w1 v' (l++e4 N):=by unfold Own;(have e:∀(x y z u:Int),x=((dG (N/16777216%256)).toNat:Int)->y=((dG (N/65536%256)).toNat:Int)->z=((dG (N/256%256)).toNat:Int)->u=((dG (N%256)).toNat:Int)->ez l++[gv .u8 x, .int .u8 y, .int .u8 z, .int .u8 u]=ez (l++e4 N):=by intro x y z u hx hy hz hu;subst hx hy hz hu;simp[ez,e4]);rw[e _ _ _ _ (by rw[oo _ (by omega)];omega) (by rw[oo _ (by omega)];omega) (by rw[oo _ (by omega)];omega) (by rw[oo _ (by omega)];omega)]at hown1;rw[cm];exact hown1
 have hB:=((Below.refl _ w).alloc hbase _).grown hgrow (by simp;omega) (Own.block hown0);clear hown1 hgrow hown hown0;go_wp2;go_ret;exact⟨_,rfl,hO,hB⟩
theorem Own.nd{base:Nat}{w w':aa}{v:ae}{l:List UInt8}(h:Own base w v l)(k:∀j,j<w.heap.size->w'.heap[j]?=w.heap[j]?):Own base w' v l:=by obtain⟨h1,⟨rfl,h2⟩|⟨g,cap,cur,rfl,hg,hb,h3⟩⟩:=h;{exact⟨h1,Or.inl ⟨rfl,h2⟩⟩};.refine⟨h1,Or.inr ⟨g,cap,cur,rfl,hg, ?_,h3⟩⟩;(have hlt:g<w.heap.size:=by by_cases hb':g<w.heap.size;{exact hb'};. (have:w.heap[g]?=none:=by simp;omega);rw[this]at hb;cases hb);rw[k g hlt];exact hb
def ly(s:List UInt8)(k:Nat):List UInt8:=(List.range ((s.length+7)/8)).map fun j=>dG (jh (s.take k) j)
theorem PD(s:List UInt8)(k:Nat):(ly s k).length=(s.length+7)/8:=by simp[ly]
theorem PE(s:List UInt8):ly s 0=MS ((s.length+7)/8) 0:=by unfold ly;apply List.ext_getElem;{simp};.intro i h1 h2;simp[jh,bit,dG]
theorem PF(s:List UInt8):ly s s.length=pack s:=by unfold ly pack;rw[List.take_length]
theorem PG(s:List UInt8)(k j:Nat)(h:j≠k/8):jh (s.take (k+1)) j=jh (s.take k) j:=by(have hb:∀i,i≠k->bit (s.take (k+1)) i=bit (s.take k) i:=by intro i hi;rw[yx,yx];by_cases h1:i<k;{rw[if_pos h1,if_pos (by omega)]};.rw[if_neg h1,if_neg (by omega)]);unfold jh;rw[hb _ (by omega),hb _ (by omega),hb _ (by omega),hb _ (by omega),hb _ (by omega),hb _ (by omega),hb _ (by omega),hb _ (by omega)]
theorem Hv(s:List UInt8)(k:Nat):jh (s.take k) (k/8)%2^(8-k%8)=0/\jh (s.take (k+1)) (k/8)=jh (s.take k) (k/8)+bit s k*2^(7-k%8):=by
 have hk:k=8*(k/8)+k%8:=by omega
 have hr:k%8<8:=by omega
 generalize hj:k/8=j at*;generalize hq:k%8=r at*;have h0:=jF s (8*j);have h1:=jF s (8*j+1);have h2:=jF s (8*j+2);have h3:=jF s (8*j+3);have h4:=jF s (8*j+4);have h5:=jF s (8*j+5);have h6:=jF s (8*j+6);have h7:=jF s (8*j+7);subst hk;have a0:∀t,bit (s.take (8*j+r)) (8*j+t)=if t<r then bit s (8*j+t)else 0:=fun t=>by rw[yx];by_cases h:t<r;{rw[if_pos h,if_pos (by omega)]};.rw[if_neg h,if_neg (by omega)]
 have c0:∀t,bit (s.take (8*j+r+1)) (8*j+t)=if t<r+1 then bit s (8*j+t)else 0:=fun t=>by rw[yx];by_cases h:t<r+1;{rw[if_pos h,if_pos (by omega)]};.rw[if_neg h,if_neg (by omega)]
 have Hw:bit (s.take (8*j+r)) (8*j)=if 0<r then bit s (8*j)else 0:=a0 0;have c00:bit (s.take (8*j+r+1)) (8*j)=if 0<r+1 then bit s (8*j)else 0:=c0 0;unfold jh;rw[Hw,a0 1,a0 2,a0 3,a0 4,a0 5,a0 6,a0 7,c00,c0 1,c0 2,c0 3,c0 4,c0 5,c0 6,c0 7];clear a0 c0 Hw c00;match r,hr with|0,_=>simp<;>omega|1,_=>simp<;>omega|2,_=>simp<;>omega|3,_=>simp<;>omega|4,_=>simp<;>omega|5,_=>simp<;>omega|6,_=>simp<;>omega|7,_=>simp<;>omega
theorem PH(s:List UInt8)(k:Nat)(hk:k<s.length):(ly s k).set (k/8) (dG (jh (s.take k) (k/8)+bit s k*2^(7-k%8)))=ly s (k+1):=by apply List.ext_getElem?;intro i;rw[List.getElem?_set];unfold ly;by_cases hi:k/8=i;{subst hi;rw[if_pos rfl,if_pos (by simp;omega),sh,MT (by omega),iE,(Hv s k).2]};.rw[if_neg hi,sh,sh];by_cases hn:i<(s.length+7)/8;{rw[MT hn,iE,iE,PG s k i (by omega)]};.rw[Z4 (by simp;omega),Option.map_none,Option.map_none]
theorem PI(s:List UInt8)(k:Nat)(hk:k<s.length):(ly s k)[k/8]?=some (dG (jh (s.take k) (k/8))):=by unfold ly;rw[sh,MT (by omega),iE]
theorem PK(s:List UInt8)(k:Nat)(hP:uW s)(hk:k<s.length)(h:k<(S s).size):lP .or .u8 ((jh (s.take k) (k/8):Nat):Int) ((((((S s)[k]'h).toNat:Nat):Int)-48)%256*2^(7-k%8)%256)=((dG (jh (s.take k) (k/8)+bit s k*2^(7-k%8))).toNat:Int):=by
 obtain⟨hz,hs2⟩:=Hv s k;have hlt:=B2 (s.take (k+1)) (k/8);have hx:=B2 (s.take k) (k/8);rw[hs2]at hlt;have hb:((((((S s)[k]'h).toNat:Nat):Int)-48)%256)=((bit s k:Nat):Int):=by have hm:=hP.1 s[k] (List.getElem_mem hk);rcases hm with e|e;{(have e1:((S s)[k]'h).toNat=48:=by rw[Hs];exact congrArg UInt8.toNat e);(have e2:s[k]?=some 48:=by rw[hA hk];exact congrArg some e);unfold bit;rw[e1,e2];rfl};. (have e1:((S s)[k]'h).toNat=49:=by rw[Hs];exact congrArg UInt8.toNat e);(have e2:s[k]?=some 49:=by rw[hA hk];exact congrArg some e);unfold bit;rw[e1,e2];rfl
 have hb1:=jF s k;rw[hb,oo _ hlt];generalize bit s k=q at*;generalize jh (s.take k) (k/8)=x at*;have hp:2^(7-k%8)<=128:=by have:=Nat.pow_le_pow_right (n:=2) (by decide:2>0) (by omega:7-k%8<=7);simpa using this
 have hq:q*2^(7-k%8)<=128:=by rcases(by omega:q=0\/q=1)with rfl|rfl;{simp};.simpa using hp
 have e1:((q:Nat):Int)*2^(7-k%8)%256=((q*2^(7-k%8):Nat):Int):=by rw[show((q:Nat):Int)*2^(7-k%8)=((q*2^(7-k%8):Nat):Int)from by simp];omega
 rw[e1,u8_or_nat x (q*2^(7-k%8)) hx (by omega)];congr 1;refine nat_join (8-k%8) x _ hz ?_;have h2:2^(8-k%8)=2^(7-k%8)*2:=by rw[<-Nat.pow_succ];congr 1;omega
 have hpos:=Nat.one_le_two_pow (n:=7-k%8);rw[h2];rcases(by omega:q=0\/q=1)with rfl|rfl;{simp;omega};.simp;omega
theorem Hx(base:Nat)(v:ae)(l s:List UInt8)(w:aa)(hs:uW s)(hl:l.length<=500)(hown:Own base w v l)(hbase:base<=w.heap.size):aH ag 127 #[v, .string (S s)] w fun e w'=>yz base w (l++j0 s) e w':=by
 have h37:=hs.2;obtain⟨i0,hi,hz0,hz1,hz2⟩:=kr pK;have hk:=yC base v l s.length w (by omega) (by omega) hown hbase;have hss:=oq s;have hel:(cU s.length).length<=10:=pL 10 s.length;obtain⟨K,hK⟩:∃K,K=(s.length+7)/8:=⟨_,rfl⟩;have hK5:K<=5:=by omega
 obtain⟨M,hM⟩:∃M,M=kZ (gv .u8 0).cells K:=⟨_,rfl⟩;have hmk:∀W:aa,(Instr.makeSlice 100 (.int .i64 (((s.length:Int)+7)/8)) (.int .i64 (((s.length:Int)+7)/8))).run ag W= .ok (.slice (some ⟨W.heap.size,0,none⟩) K K) (W.alloc (.cells M 5)):=fun W=>by have h:=run_make (P:=ag) W 100 5 i0 (.int .u8 0) iq hi hz0 .i64 .i64 (((s.length:Int)+7)/8) (((s.length:Int)+7)/8) (by omega) (by omega) (by rw[hz2];omega) (by omega);rw[hz1,show(((s.length:Int)+7)/8).toNat=K from by omega,Nat.mul_one,<-hM]at h;exact h
 have HM:Hid _:=hM;have HK:Hid _:=hK;clear hM hK;go_enter Tryz.func127,Tryz.ntmps127;go_wp2_with fail;refine hk.mono ?_;rintro e w1 ⟨v1,rfl,fZ,hB1⟩;go_wp2_with fail;obtain⟨g,hg⟩:∃g,g=w1.heap.size:=⟨_,rfl⟩;obtain⟨wm,hwm⟩:∃wm,wm=w1.alloc (.cells M 5):=⟨_,rfl⟩;have hrow:iJ wm g (ly s 0):=by rw[hwm,hg,PE,HM.out,HK.out];exact iJ.new w1 _
 have hBg:Below g w1 wm:=by rw[hwm,hg];exact(Below.refl _ w1).alloc (Nat.le_refl _) _
 have hbg:base<=g:=by have:=hB1.size;omega
 have hg1:Hid (g=w1.heap.size):=hg;rw[<-hwm,<-hg];clear hg hwm hmk hk hown;go_loopw[18](fun i wr=>∃k:Nat,k<=s.length/\i= .int .i64 k/\iJ wr g (ly s k)/\Below g w1 wr)(fun i _=>s.length-(intOf i).toNat);case atStart=>exact⟨0,by omega,rfl,hrow,hBg⟩
 case round=>obtain⟨k,hk,rfl,hrow',hb5⟩:=hrel;by_cases hlt:k<s.length;{have hmk:=hrow'.mark (k/8);(have hpk:k/8<K:=by have:=HK.out;omega);have hpl:=PD s k;obtain⟨x,hx⟩:∃x,x=jh (s.take k) (k/8):=⟨_,rfl⟩;(have hcl:wr.cell? ⟨g,k/8,none⟩=some (.int .u8 (x:Nat)):=by(have hlen:k/8<(ly s k).length:=by rw[hpl];omega);have h1:=hrow'.cell (k/8) hlen;have h2:=PI s k hlt;rw[hA hlen]at h2;rw[h1,Option.some.inj h2,oo _ (B2 _ _),hx]);have HX:Hid _:=hx;clear hx hpl;go_wp2;go_region;go_wp2;go_roundw;(case rel=>refine⟨k+1,by omega,by go_num, ?_, ?_⟩;{rw[<-PH s k hlt];have hxx:=HX.out;subst hxx;exact hrow'.set (k/8) _ _ (PK s k hs hlt _)};.exact(Pu hb5 _ _ _ (Nat.le_refl _)).drew);case measure=>simp[intOf];omega};. (obtain rfl:k=s.length:=by omega);rw[PF]at hrow';have hO2:Own base wr v1 (l++cU s.length):=fZ.nd fun j hj=>hb5.block j (by rw[hg1.out];exact hj);(have hpl:(pack s).length=K:=by rw[B5,HK.out]);(have hnews:∀j u,(ez (pack s))[j]?=some u->wr.cell? ((⟨g,0,none⟩:aq).add j)=some u:=by intro j u hj;unfold ez at hj;rw[sh]at hj;cases hp:(pack s)[j]? with|none=>rw[hp]at hj;cases hj|some c=>rw[hp]at hj;(have hlj:j<(pack s).length:=by by_cases h:j<(pack s).length;{exact h};.rw[Z4 (by omega)]at hp;cases hp);have hc:=hrow'.cell j hlj;rw[hA hlj]at hp;rw[Option.some.inj hp]at hc;simp only[iE,Option.some.injEq]at hj;(have ea:(⟨g,0,none⟩:aq).add j=⟨g,j,none⟩:=by cases j<;>simp[Addr.add]);rw[<-hj,<-hc,ea]);have hgz:w1.heap.size<=wr.heap.size:=hb5.size;(have hone:∀u,u∈ez (pack s)->u.oneCell'=true:=by intro u hu;unfold ez at hu;obtain⟨c,_,rfl⟩:=List.mem_map.1 hu;rfl);have Hy:=hO2;unfold Own at hO2;go_wp2_with(at_builtin;refine fV _ rfl (.tmp 37) (.tmp 38) 100 rfl base 5 i0 (.int .u8 0) 1 1 iq hi hz0 hz1 hz2 rfl (by decide) _ _ _ rfl hO2 ⟨g,0,none⟩ K K (ez (pack s)) rfl ?c1 hnews hone ?c3 ?c4 ?c5 ?_);(case c1=>simp[ez,hpl]);(case c3=>rw[cm];unfold de;omega);(case c4=>rw[cm];omega);(case c5=>have:=hB1.size;omega);intro v' w2 hown2 hgrow _;(have hO:Own base w2 v' (l++j0 s):=by unfold Own j0;rw[<-B8]at hown2;rw[<-List.append_assoc,cm,cm,hpl];exact hown2);have hB:=(hB1.trans (hb5.mono hbg)).grown hgrow (by have:=hB1.size;omega) (Own.block Hy);clear hown2 hgrow fZ hB1 hel hO2 Hy hnews hone hb5 hrow';go_wp2;go_ret;exact⟨_,rfl,hO,hB⟩
