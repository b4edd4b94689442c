/- What a reader's step. -/
import Derived.Test.YtddcbeeldjjmeaaGreatDoorProg
import Derived.Handy
import Derived.BigQuiet
import Derived.Lib.BufferWrite
import Derived.Lib.MinMax
import Derived.WalkSpells
import Derived.Test.YtddcbeeldjjmeaaGreatDoorP16
set_option maxRecDepth 20000
set_option maxHeartbeats 1000000
open ByteArray renaming data_extract->F0,ext->Oe
open Go renaming Addr->al,Calls->au,Value->ab,World->aa,bits->fO,cell_one_new->ml,info_parts->jC,madeCells->ks,maxLen->cW,wpList_append_own->fW
open Go.Addr renaming add->gD
open Go.Proofs.Tryz renaming prog->ag,underlying100->gC,underlying9->nN
open Go.RowKit.Below renaming heap_setCell->mR,refl->bP
open Go.Value renaming int->iV,ownBlock->gM
open Go.World renaming cell?->cE,cell?_of_block->vw,frozen?_setCell->acB,setCell->fi
open List renaming getElem?_eq_getElem->e4,getElem?_eq_none->s9,getElem?_map->mQ,getElem?_range->yE,length_append->bH,replicate->BG
open Nat renaming le_refl->aI,le_trans->bt,lt_of_lt_of_le->cw,pow_succ->s7
open Option renaming map_some->iy
namespace Go.Proofs.YtddcbeeldjjmeaaGreatDoor.aF
open Go.RowKit bg
set_option linter.unusedVariables false
set_option linter.unusedSimpArgs false
def S(l:List UInt8):ByteArray:=⟨l.toArray⟩
theorem eX(l:List UInt8):(S l).size=l.length:=by simp[S,ByteArray.size]
theorem jv(l:List UInt8):(S l).data.toList=l:=by simp[S]
theorem zA(s:ByteArray):S s.data.toList=s:=by cases s;simp[S]
structure bE(a:al)(l':List UInt8)(w w':aa):Prop where
 os:w'.os=w.os
 tape:w'.tape=w.tape
 output:w'.output=w.output
 size:w.heap.size<=w'.heap.size
 block:∀k,k<w.heap.size->k≠a.block->w'.heap[k]?=w.heap[k]?
 rest:w'.cell? a=some (.string (S l'))
 mark:w'.frozen? a=false
theorem bE.below{a:al}{l':List UInt8}{w w':aa}(h:bE a l' w w'){B:Nat}(h1:B<=a.block)(h2:B<=w.heap.size):Below B w w':=⟨h.os,h.tape,h.output,h.size,fun k hk=>h.block k (by omega) (by omega)⟩
theorem bE.cell{a:al}{l':List UInt8}{w w':aa}(h:bE a l' w w'){p:al}(hp:p.block<w.heap.size)(hn:p.block≠a.block):w'.cell? p=w.cell? p:=vw (w:=w) (h.block p.block hp hn)
theorem bE.frozen{a:al}{l':List UInt8}{w w':aa}(h:bE a l' w w'){p:al}(hp:p.block<w.heap.size)(hn:p.block≠a.block):w'.frozen? p=w.frozen? p:=World.frozen?_of_block (w:=w) (h.block p.block hp hn)
theorem bE.trans{a:al}{l1 l2:List UInt8}{w0 w1 w2:aa}(h:bE a l1 w0 w1)(k:bE a l2 w1 w2):bE a l2 w0 w2:=⟨k.os.trans h.os,k.tape.trans h.tape,k.output.trans h.output,bt h.size k.size,fun i hi hn=>(k.block i (cw hi h.size) hn).trans (h.block i hi hn),k.rest,k.mark⟩
theorem bE.refl{a:al}{l:List UInt8}{w:aa}(hc:w.cell? a=some (.string (S l)))(hf:w.frozen? a=false):bE a l w w:=⟨rfl,rfl,rfl,aI _,fun _ _ _=>rfl,hc,hf⟩
theorem bE.drewN{a:al}{l:List UInt8}{w w':aa}(h:bE a l w w')(n:Nat):bE a l w (w'.drewN n):=⟨h.os,h.tape,h.output,h.size,h.block,h.rest,h.mark⟩
theorem bE.then{a:al}{l:List UInt8}{w0 w1 w2:aa}(h:bE a l w0 w1)(k:Below w1.heap.size w1 w2)(ha:a.block<w1.heap.size):bE a l w0 w2:=⟨k.os.trans h.os,k.tape.trans h.tape,k.output.trans h.output,bt h.size k.size,fun i hi hn=>(k.block i (cw hi h.size)).trans (h.block i hi hn),by rw[k.cell ha];exact h.rest,by rw[k.frozen ha];exact h.mark⟩
theorem bE.store{a:al}{l l':List UInt8}{w:aa}(hc:w.cell? a=some (.string (S l)))(hf:w.frozen? a=false):bE a l' w (w.setCell a (.string (S l'))):=by refine⟨rfl,rfl,rfl,by simp[fi],fun k _ hn=>mR _ _ _ _ hn, ?_, ?_⟩;{exact World.cell?_setCell_same _ _ _ hc};.rw[acB];exact hf
theorem cell_lt{w:aa}{a:al}{v:ab}(h:w.cell? a=some v):a.block<w.heap.size:=by by_cases hb:a.block<w.heap.size;{exact hb};. (have:w.heap[a.block]?=none:=by simp;omega);simp[cE,this]at h
theorem zB{B:Nat}{a w:aa}(h:Below B a w)(b o:Nat)(v:ab)(hb:B<=b):Below B a (w.setCell ⟨b,o,none⟩ v):=h.setCell (p:=⟨b,o,none⟩) hb v
theorem IA(l:List UInt8)(k:Nat):(S l).extract 0 k=S (l.take k):=by apply Oe;simp[S,F0]
theorem IB(l:List UInt8)(k:Nat):(S l).extract k l.length=S (l.drop k):=by apply Oe;simp only[S,F0];apply Array.ext';simp only[Array.toList_extract,List.extract_eq_take_drop];exact List.take_of_length_le (by simp)
theorem qF(l:List UInt8)(i:Nat)(h:i<(S l).size):(S l)[i]'h=l[i]'(by rw[eX]at h;exact h):=by simp[S,ByteArray.getElem_eq_getElem_data]
def du(l:List UInt8):List ab:=l.map fun c=>iV .u8 c.toNat
def fT(w:aa)(g:Nat)(l:List UInt8):Prop:=w.heap[g]?=some (.cells (du l).toArray 5 (0,0))
theorem fT.lt{w:aa}{g:Nat}{l:List UInt8}(h:fT w g l):g<w.heap.size:=by by_cases hb:g<w.heap.size;{exact hb};. (have:w.heap[g]?=none:=by simp;omega);unfold fT at h;rw[this]at h;cases h
theorem fT.cell{w:aa}{g:Nat}{l:List UInt8}(h:fT w g l)(k:Nat)(hk:k<l.length):w.cell? ⟨g,k,none⟩=some (.int .u8 (l[k]'hk).toNat):=by unfold fT at h;simp[cE,h,du,hk]
theorem fT.mark{w:aa}{g:Nat}{l:List UInt8}(h:fT w g l)(k:Nat):w.frozen? ⟨g,k,none⟩=false:=by unfold fT at h;simp[World.frozen?,h]
theorem fT.set{w:aa}{g:Nat}{l:List UInt8}(h:fT w g l)(k:Nat)(c:UInt8)(x:Int)(e:x=c.toNat):fT (w.setCell ⟨g,k,none⟩ (.int .u8 x)) g (l.set k c):=by unfold fT at h⊢;subst e;have hg:=fT.lt h;simp[fi,Array.getElem?_modify,h,du,List.map_set]
theorem Rf(n:Nat):ks (iV .u8 0).cells n=(du (BG n 0)).toArray:=by apply Array.ext';apply List.ext_getElem;{simp[ks,du,Value.cells]};.intro i h1 h2;simp[ks,du,Value.cells,Nat.mod_one]
theorem fT.new(w:aa)(n:Nat):fT (w.alloc (.cells (ks (iV .u8 0).cells n) 5)) w.heap.size (BG n 0):=by unfold fT;rw[Rf];exact heap_alloc_new w _
theorem bE.nd{a:al}{l:List UInt8}{w wr:aa}(h:bE a l w wr)(p:al)(v:ab)(hp:w.heap.size<=p.block)(hn:p.block≠a.block):bE a l w (wr.setCell p v):=⟨h.os,h.tape,h.output,by simpa[fi]using h.size,fun k hk hne=>by rw[mR _ _ _ _ (by omega)];exact h.block k hk hne,by rw[vw (w:=wr) (mR _ _ _ _ (by omega))];exact h.rest,by rw[acB];exact h.mark⟩
theorem bE.alloc{a:al}{l:List UInt8}{w wr:aa}(h:bE a l w wr)(o:Obj)(ha:a.block<wr.heap.size):bE a l w (wr.alloc o):=h.then ((bP _ _).alloc (aI _) o) ha
theorem fT.text{w:aa}{g:Nat}{l:List UInt8}(h:fT w g l)(o n cap:Nat)(hn:o+n<=l.length)(m:Nat)(hm:m=n):(Go.convert 100 9 (.slice (some ⟨g,o,none⟩) m cap)).run ag w= .ok (.string (S ((l.drop o).take n))) w:=by subst hm;(have hl:((l.drop o).take m).length=m:=by rw[List.length_take,List.length_drop];omega);have hr:=run_convert_bytes_back (P:=ag) w 100 9 5 ⟨g,o,none⟩ cap ((l.drop o).take m) gC Tryz.underlying5 nN (fun j hj=>by(have hk:o+j<l.length:=by omega);have hc:=h.cell (o+j) hk;(have e:(⟨g,o,none⟩:al).add j=⟨g,o+j,none⟩:=by simp[gD]);rw[e,hc];simp);rw[hl]at hr;exact hr
def cV(n:aX):ab:= .agg #[.int .i64 n.kind, .string (S n.path), .string (S n.value), .int .i64 n.left, .int .i64 n.right]
theorem nZ:(Tryz.prog.info? 5).map (fun i=>(i.zero,i.size,i.bytes))=some (some (.int .u8 0),1,1):=by kernel_rfl
def Own(base:Nat)(w:aa)(v:ab)(l:List UInt8):Prop:=w.ownsRow base 5 1 v l.length (du l)
def zC(base:Nat)(w:aa)(l:List UInt8)(e:Ending)(w':aa):Prop:=∃v,e= .returned v/\Own base w' v l/\Below base w w'
theorem zD(f m:Nat)(h:m<128):iB (f+1) m=[b8 m]:=by unfold iB;rw[if_pos h]
theorem IC(f m:Nat)(h:¬m<128):iB (f+1) m=b8 (128+m%128)::iB f (m/128):=by rw[iB,if_neg h]
theorem CO(a b:List UInt8):du (a++b)=du a++du b:=by simp[du]
theorem qG(f m:Nat):(iB f m).length<=f:=by induction f generalizing m with|zero=>simp[iB]|succ f ih=>by_cases h:m<128;{rw[zD f m h];simp};.rw[IC f m h,List.length_cons];have:=ih (m/128);omega
theorem Rg(l:List UInt8)(c:UInt8):du l++[.int .u8 c.toNat]=du (l++[c]):=by simp[du]
theorem Own.block{base:Nat}{w:aa}{v:ab}{l:List UInt8}(h:Own base w v l):∀k,v.ownBlock=some k->base<=k:=by intro k hk;obtain⟨_,⟨rfl,_⟩|⟨g,cap,cur,rfl,hg,_⟩⟩:=h;{simp[gM]at hk};.simp[gM]at hk;omega
theorem Own.snoc{base:Nat}{w1:aa}{v':ab}{l:List UInt8}{x:Int}(c:UInt8)(hx:x=c.toNat)(h:w1.ownsRow base 5 1 v' (l.length+1) (du l++[.int .u8 x])):Own base w1 v' (l++[c]):=by unfold Own;subst hx;rw[Rg]at h;rw[bH];exact h
theorem Rh(m:Nat)(hm:m<268435456):(fO .or .i64 (fO .and .i64 (m:Int) 127) 128)%256=((b8 (128+m%128)).toNat:Int):=by rw[i64_and127,show((m:Int)%128)=((m%128:Nat):Int)from by omega,show(128:Int)=((128:Nat):Int)from rfl,wh _ _ (by omega) (by omega),Nat.or_comm,nat_join 7 128 (m%128) (by decide) (by omega),gJ _ (by omega)];omega
theorem CP(base:Nat)(v:ab)(l:List UInt8)(n:Nat)(w:aa)(hn:n<268435456)(hl:l.length<=1000)(hown:Own base w v l)(hbase:base<=w.heap.size):au ag 124 #[v, .int .i64 n] w fun e w'=>zC base w (l++df n) e w':=by obtain⟨i0,hi,hz0,hz1,hz2⟩:=jC nZ;go_enter Tryz.func124,Tryz.ntmps124;go_wp2;go_loopw[0,1](fun v x wr=>∃(l':List UInt8)(m f:Nat),l'++iB f m=l++df n/\m<128^f/\1<=f/\m<268435456/\l'.length+f<=1010/\Own base wr v l'/\Below base w wr/\base<=wr.heap.size/\x= .int .i64 m)(fun _ x _=>(intOf x).toNat);(case atStart=>exact⟨l,n,10,rfl,by omega,by omega,hn,by omega,hown,bP _ _,hbase,rfl⟩);case round=>obtain⟨l',m,f,he,hm,hf,Ri,hlen,hown',hb,hbr,rfl⟩:=hrel;have HA:Hid (l'++iB f m=l++df n/\m<128^f/\1<=f):=⟨he,hm,hf⟩;clear he hm hf;unfold Own at hown';by_cases hlt:m<128;{go_wp2_with(at_builtin;refine fW _ rfl (.tmp 16) (.tmp 19) 100 rfl base 5 i0 (.int .u8 0) 1 1 gC hi hz0 hz1 hz2 rfl (by decide) _ _ _ rfl (hown'.alloc _) ⟨wr.heap.size,0,none⟩ 1 1 _ rfl rfl (ml _ _ _) ?c2 ?c3 ?c4 ?c5 ?_);(case c2=>intro u hu;simp at hu;subst hu;rfl);(case c3=>unfold cW;omega);(case c4=>omega);(case c5=>simp;omega);.intro v' w1 hown1 hgrow _;have hO:=Own.snoc (b8 m) (by rw[gJ m (by omega)]) hown1;have hB:=(hb.alloc hbr _).grown hgrow (by simp;omega) (Own.block hown');obtain⟨he,hm,hf⟩:=HA.out;obtain⟨f,rfl⟩:∃g,f=g+1:=⟨f-1,by omega⟩;rw[zD f m hlt]at he;rw[he]at hO;clear he hm hown1 hgrow hown' hb;go_wp2;go_ret;exact⟨_,rfl,hO,hB⟩};. (have h127:127<(m:Int):=by omega);go_wp2_with(at_builtin;refine fW _ rfl (.tmp 9) (.tmp 14) 100 rfl base 5 i0 (.int .u8 0) 1 1 gC hi hz0 hz1 hz2 rfl (by decide) _ _ _ rfl (hown'.alloc _) ⟨wr.heap.size,0,none⟩ 1 1 _ rfl rfl (ml _ _ _) ?c2 ?c3 ?c4 ?c5 ?_);(case c2=>intro u hu;simp at hu;subst hu;rfl);(case c3=>unfold cW;omega);(case c4=>omega);(case c5=>simp;omega);.intro v' w1 hown1 hgrow _;have hO:=Own.snoc (b8 (128+m%128)) (Rh m Ri) hown1;have hB:=(hb.alloc hbr _).grown hgrow (by simp;omega) (Own.block hown');have hsz:=hgrow.size;have HO:Hid _:=hO;have HB:Hid _:=hB;have HZ:Hid _:=hsz;clear hown1 hgrow hown' hb hO hB hsz;go_wp2;go_roundw;(case rel=>obtain⟨he,hm,hf⟩:=HA.out;obtain⟨f,rfl⟩:∃g,f=g+1:=⟨f-1,by omega⟩;rw[IC f m hlt]at he;(have hf1:1<=f:=by rcases f with _|f;{simp at hm;omega};.omega);refine⟨l'++[b8 (128+m%128)],m/128,f,by rw[<-he];simp,by rw[s7]at hm;omega,hf1,by omega,by rw[bH];simp;omega,HO.out,HB.out, ?_,by go_num⟩;have:=HZ.out;simp at this;omega);case measure=>simp[intOf];omega
theorem Rj(l:List UInt8):Lib.strCells (S l)=du l:=by simp[Lib.strCells,du,S]
theorem ID(base:Nat)(v:ab)(l s:List UInt8)(w:aa)(hs:s.length<=1000)(hl:l.length<=500)(hown:Own base w v l)(hbase:base<=w.heap.size):au ag 125 #[v, .string (S s)] w fun e w'=>zC base w (l++df s.length++s) e w':=by
 obtain⟨i0,hi,hz0,hz1,hz2⟩:=jC nZ;have hk:=CP base v l s.length w (by omega) (by omega) hown hbase;have hss:=eX s;have hel:(df s.length).length<=10:=qG 10 s.length;go_enter Tryz.func125,Tryz.ntmps125;go_wp2_with fail;refine hk.mono ?_;rintro e w1 ⟨v1,rfl,iN,hB1⟩;unfold Own at iN;go_wp2_with(at_builtin;refine Lib.wpList_append_own_string _ rfl (.tmp 8) (.tmp 9) 100 9 rfl base 5 i0 gC nN hi hz0 hz1 hz2 _ _ _ rfl iN _ rfl ?c3 ?c4 ?c5 ?_);case c3=>rw[hss,bH];unfold cW;omega
 case c4=>rw[hss,bH];omega
 case c5=>have:=hB1.size;omega
 intro v' w2 hown2 hgrow _;have hO:Own base w2 v' (l++df s.length++s):=by unfold Own;rw[Rj]at hown2;rw[bH,bH,CO];exact hown2
 have hB:=hB1.grown hgrow (by have:=hB1.size;omega) (Own.block iN);clear hown2 hgrow iN hB1 hel;go_wp2;go_ret;exact⟨_,rfl,hO,hB⟩
theorem IE(w:aa)(a b c d:ab)(t:TypeId):∀j u,[a,b,c,d][j]?=some u->(w.alloc (.cells #[a,b,c,d] t)).cell? ((⟨w.heap.size,0,none⟩:al).add j)=some u:=by intro j u hj;match j,hj with|0,hj=>simp at hj;subst hj;simp[gD]|1,hj=>simp at hj;subst hj;simp[gD]|2,hj=>simp at hj;subst hj;simp[gD]|3,hj=>simp at hj;subst hj;simp[gD]|j+4,hj=>simp at hj
theorem IF(base:Nat)(v:ab)(l:List UInt8)(n:Int)(w:aa)(h0:0<=n)(hn:n<4294967296)(hl:l.length<=1000000)(hown:Own base w v l)(hbase:base<=w.heap.size):au ag 126 #[v, .int .i64 n] w fun e w'=>zC base w (l++bj n.toNat) e w':=by
 obtain⟨N,rfl⟩:=Int.eq_ofNat_of_zero_le h0;obtain⟨i0,hi,hz0,hz1,hz2⟩:=jC nZ;have hown0:=hown;unfold Own at hown;go_enter Tryz.func126,Tryz.ntmps126;go_wp2_with(at_builtin;refine fW _ rfl (.tmp 5) (.tmp 17) 100 rfl base 5 i0 (.int .u8 0) 1 1 gC hi hz0 hz1 hz2 rfl (by decide) _ _ _ rfl (hown.alloc _) ⟨w.heap.size,0,none⟩ 4 4 _ rfl rfl (IE _ _ _ _ _ _) ?c2 ?c3 ?c4 ?c5 ?_);case c2=>intro u hu;simp at hu;rcases hu with rfl|rfl|rfl|rfl<;>rfl
 case c3=>unfold cW;omega
 case c4=>omega
 case c5=>simp;omega
 intro v' w1 hown1 hgrow _;have hO:Own base w1 v' (l++bj N):=by unfold Own;(have e:∀(x y z u:Int),x=((b8 (N/16777216%256)).toNat:Int)->y=((b8 (N/65536%256)).toNat:Int)->z=((b8 (N/256%256)).toNat:Int)->u=((b8 (N%256)).toNat:Int)->du l++[iV .u8 x, .int .u8 y, .int .u8 z, .int .u8 u]=du (l++bj N):=by intro x y z u hx hy hz hu;subst hx hy hz hu;simp[du,bj]);rw[e _ _ _ _ (by rw[gJ _ (by omega)];omega) (by rw[gJ _ (by omega)];omega) (by rw[gJ _ (by omega)];omega) (by rw[gJ _ (by omega)];omega)]at hown1;rw[bH];exact hown1
 have hB:=((bP _ w).alloc hbase _).grown hgrow (by simp;omega) (Own.block hown0);clear hown1 hgrow hown hown0;go_wp2;go_ret;exact⟨_,rfl,hO,hB⟩
theorem Own.jq{base:Nat}{w w':aa}{v:ab}{l:List UInt8}(h:Own base w v l)(k:∀j,j<w.heap.size->w'.heap[j]?=w.heap[j]?):Own base w' v l:=by obtain⟨h1,⟨rfl,h2⟩|⟨g,cap,cur,rfl,hg,hb,h3⟩⟩:=h;{exact⟨h1,Or.inl ⟨rfl,h2⟩⟩};.refine⟨h1,Or.inr ⟨g,cap,cur,rfl,hg, ?_,h3⟩⟩;(have hlt:g<w.heap.size:=by by_cases hb':g<w.heap.size;{exact hb'};. (have:w.heap[g]?=none:=by simp;omega);rw[this]at hb;cases hb);rw[k g hlt];exact hb
def jW(s:List UInt8)(k:Nat):List UInt8:=(List.range ((s.length+7)/8)).map fun j=>b8 (ij (s.take k) j)
theorem IG(s:List UInt8)(k:Nat):(jW s k).length=(s.length+7)/8:=by simp[jW]
theorem IH(s:List UInt8):jW s 0=BG ((s.length+7)/8) 0:=by unfold jW;apply List.ext_getElem;{simp};.intro i h1 h2;simp[ij,bit,b8]
theorem II(s:List UInt8):jW s s.length=pack s:=by unfold jW pack;rw[List.take_length]
theorem Rk(s:List UInt8)(k j:Nat)(h:j≠k/8):ij (s.take (k+1)) j=ij (s.take k) j:=by(have hb:∀i,i≠k->bit (s.take (k+1)) i=bit (s.take k) i:=by intro i hi;rw[wv,wv];by_cases h1:i<k;{rw[if_pos h1,if_pos (by omega)]};.rw[if_neg h1,if_neg (by omega)]);unfold ij;rw[hb _ (by omega),hb _ (by omega),hb _ (by omega),hb _ (by omega),hb _ (by omega),hb _ (by omega),hb _ (by omega),hb _ (by omega)]
theorem IJ(s:List UInt8)(k:Nat):ij (s.take k) (k/8)%2^(8-k%8)=0/\ij (s.take (k+1)) (k/8)=ij (s.take k) (k/8)+bit s k*2^(7-k%8):=by
 have hk:k=8*(k/8)+k%8:=by omega
 have hr:k%8<8:=by omega
 generalize hj:k/8=j at*;generalize hq:k%8=r at*;have h0:=jG s (8*j);have h1:=jG s (8*j+1);have h2:=jG s (8*j+2);have h3:=jG s (8*j+3);have h4:=jG s (8*j+4);have h5:=jG s (8*j+5);have h6:=jG s (8*j+6);have h7:=jG s (8*j+7);subst hk;have a0:∀t,bit (s.take (8*j+r)) (8*j+t)=if t<r then bit s (8*j+t)else 0:=fun t=>by rw[wv];by_cases h:t<r;{rw[if_pos h,if_pos (by omega)]};.rw[if_neg h,if_neg (by omega)]
 have c0:∀t,bit (s.take (8*j+r+1)) (8*j+t)=if t<r+1 then bit s (8*j+t)else 0:=fun t=>by rw[wv];by_cases h:t<r+1;{rw[if_pos h,if_pos (by omega)]};.rw[if_neg h,if_neg (by omega)]
 have IK:bit (s.take (8*j+r)) (8*j)=if 0<r then bit s (8*j)else 0:=a0 0;have c00:bit (s.take (8*j+r+1)) (8*j)=if 0<r+1 then bit s (8*j)else 0:=c0 0;unfold ij;rw[IK,a0 1,a0 2,a0 3,a0 4,a0 5,a0 6,a0 7,c00,c0 1,c0 2,c0 3,c0 4,c0 5,c0 6,c0 7];clear a0 c0 IK c00;match r,hr with|0,_=>simp<;>omega|1,_=>simp<;>omega|2,_=>simp<;>omega|3,_=>simp<;>omega|4,_=>simp<;>omega|5,_=>simp<;>omega|6,_=>simp<;>omega|7,_=>simp<;>omega
theorem IL(s:List UInt8)(k:Nat)(hk:k<s.length):(jW s k).set (k/8) (b8 (ij (s.take k) (k/8)+bit s k*2^(7-k%8)))=jW s (k+1):=by apply List.ext_getElem?;intro i;rw[List.getElem?_set];unfold jW;by_cases hi:k/8=i;{subst hi;rw[if_pos rfl,if_pos (by simp;omega),mQ,yE (by omega),iy,(IJ s k).2]};.rw[if_neg hi,mQ,mQ];by_cases hn:i<(s.length+7)/8;{rw[yE hn,iy,iy,Rk s k i (by omega)]};.rw[s9 (by simp;omega),Option.map_none,Option.map_none]
theorem IM(s:List UInt8)(k:Nat)(hk:k<s.length):(jW s k)[k/8]?=some (b8 (ij (s.take k) (k/8))):=by unfold jW;rw[mQ,yE (by omega),iy]
theorem IN(s:List UInt8)(k:Nat)(hP:oP s)(hk:k<s.length)(h:k<(S s).size):fO .or .u8 ((ij (s.take k) (k/8):Nat):Int) ((((((S s)[k]'h).toNat:Nat):Int)-48)%256*2^(7-k%8)%256)=((b8 (ij (s.take k) (k/8)+bit s k*2^(7-k%8))).toNat:Int):=by
 obtain⟨hz,hs2⟩:=IJ s k;have hlt:=wj (s.take (k+1)) (k/8);have hx:=wj (s.take k) (k/8);rw[hs2]at hlt;have hb:((((((S s)[k]'h).toNat:Nat):Int)-48)%256)=((bit s k:Nat):Int):=by have hm:=hP.1 s[k] (List.getElem_mem hk);rcases hm with e|e;{(have e1:((S s)[k]'h).toNat=48:=by rw[qF];exact congrArg UInt8.toNat e);(have e2:s[k]?=some 48:=by rw[e4 hk];exact congrArg some e);unfold bit;rw[e1,e2];rfl};. (have e1:((S s)[k]'h).toNat=49:=by rw[qF];exact congrArg UInt8.toNat e);(have e2:s[k]?=some 49:=by rw[e4 hk];exact congrArg some e);unfold bit;rw[e1,e2];rfl
 have hb1:=jG s k;rw[hb,gJ _ hlt];generalize bit s k=q at*;generalize ij (s.take k) (k/8)=x at*;have hp:2^(7-k%8)<=128:=by have:=Nat.pow_le_pow_right (n:=2) (by decide:2>0) (by omega:7-k%8<=7);simpa using this
 have hq:q*2^(7-k%8)<=128:=by rcases(by omega:q=0\/q=1)with rfl|rfl;{simp};.simpa using hp
 have e1:((q:Nat):Int)*2^(7-k%8)%256=((q*2^(7-k%8):Nat):Int):=by rw[show((q:Nat):Int)*2^(7-k%8)=((q*2^(7-k%8):Nat):Int)from by simp];omega
 rw[e1,u8_or_nat x (q*2^(7-k%8)) hx (by omega)];congr 1;refine nat_join (8-k%8) x _ hz ?_;have h2:2^(8-k%8)=2^(7-k%8)*2:=by rw[<-s7];congr 1;omega
 have hpos:=Nat.one_le_two_pow (n:=7-k%8);rw[h2];rcases(by omega:q=0\/q=1)with rfl|rfl;{simp;omega};.simp;omega
theorem IP(base:Nat)(v:ab)(l s:List UInt8)(w:aa)(hs:oP s)(hl:l.length<=500)(hown:Own base w v l)(hbase:base<=w.heap.size):au ag 127 #[v, .string (S s)] w fun e w'=>zC base w (l++fq s) e w':=by
 have h37:=hs.2;obtain⟨i0,hi,hz0,hz1,hz2⟩:=jC nZ;have hk:=CP base v l s.length w (by omega) (by omega) hown hbase;have hss:=eX s;have hel:(df s.length).length<=10:=qG 10 s.length;obtain⟨K,hK⟩:∃K,K=(s.length+7)/8:=⟨_,rfl⟩;have hK5:K<=5:=by omega
 obtain⟨M,hM⟩:∃M,M=ks (iV .u8 0).cells K:=⟨_,rfl⟩;have hmk:∀W:aa,(Instr.makeSlice 100 (.int .i64 (((s.length:Int)+7)/8)) (.int .i64 (((s.length:Int)+7)/8))).run ag W= .ok (.slice (some ⟨W.heap.size,0,none⟩) K K) (W.alloc (.cells M 5)):=fun W=>by have h:=run_make (P:=ag) W 100 5 i0 (.int .u8 0) gC hi hz0 .i64 .i64 (((s.length:Int)+7)/8) (((s.length:Int)+7)/8) (by omega) (by omega) (by rw[hz2];omega) (by omega);rw[hz1,show(((s.length:Int)+7)/8).toNat=K from by omega,Nat.mul_one,<-hM]at h;exact h
 have HM:Hid _:=hM;have HK:Hid _:=hK;clear hM hK;go_enter Tryz.func127,Tryz.ntmps127;go_wp2_with fail;refine hk.mono ?_;rintro e w1 ⟨v1,rfl,iN,hB1⟩;go_wp2_with fail;obtain⟨g,hg⟩:∃g,g=w1.heap.size:=⟨_,rfl⟩;obtain⟨wm,hwm⟩:∃wm,wm=w1.alloc (.cells M 5):=⟨_,rfl⟩;have hrow:fT wm g (jW s 0):=by rw[hwm,hg,IH,HM.out,HK.out];exact fT.new w1 _
 have hBg:Below g w1 wm:=by rw[hwm,hg];exact(bP _ w1).alloc (aI _) _
 have hbg:base<=g:=by have:=hB1.size;omega
 have hg1:Hid (g=w1.heap.size):=hg;rw[<-hwm,<-hg];clear hg hwm hmk hk hown;go_loopw[18](fun i wr=>∃k:Nat,k<=s.length/\i= .int .i64 k/\fT wr g (jW s k)/\Below g w1 wr)(fun i _=>s.length-(intOf i).toNat);case atStart=>exact⟨0,by omega,rfl,hrow,hBg⟩
 case round=>obtain⟨k,hk,rfl,hrow',hb5⟩:=hrel;by_cases hlt:k<s.length;{have hmk:=hrow'.mark (k/8);(have hpk:k/8<K:=by have:=HK.out;omega);have hpl:=IG s k;obtain⟨x,hx⟩:∃x,x=ij (s.take k) (k/8):=⟨_,rfl⟩;(have hcl:wr.cell? ⟨g,k/8,none⟩=some (.int .u8 (x:Nat)):=by(have hlen:k/8<(jW s k).length:=by rw[hpl];omega);have h1:=hrow'.cell (k/8) hlen;have h2:=IM s k hlt;rw[e4 hlen]at h2;rw[h1,Option.some.inj h2,gJ _ (wj _ _),hx]);have HX:Hid _:=hx;clear hx hpl;go_wp2;go_region;go_wp2;go_roundw;(case rel=>refine⟨k+1,by omega,by go_num, ?_, ?_⟩;{rw[<-IL s k hlt];have hxx:=HX.out;subst hxx;exact hrow'.set (k/8) _ _ (IN s k hs hlt _)};.exact(zB hb5 _ _ _ (aI _)).drew);case measure=>simp[intOf];omega};. (obtain rfl:k=s.length:=by omega);rw[II]at hrow';have hO2:Own base wr v1 (l++df s.length):=iN.jq fun j hj=>hb5.block j (by rw[hg1.out];exact hj);(have hpl:(pack s).length=K:=by rw[tP,HK.out]);(have hnews:∀j u,(du (pack s))[j]?=some u->wr.cell? ((⟨g,0,none⟩:al).add j)=some u:=by intro j u hj;unfold du at hj;rw[mQ]at hj;cases hp:(pack s)[j]? with|none=>rw[hp]at hj;cases hj|some c=>rw[hp]at hj;(have hlj:j<(pack s).length:=by by_cases h:j<(pack s).length;{exact h};.rw[s9 (by omega)]at hp;cases hp);have hc:=hrow'.cell j hlj;rw[e4 hlj]at hp;rw[Option.some.inj hp]at hc;simp only[iy,Option.some.injEq]at hj;(have ea:(⟨g,0,none⟩:al).add j=⟨g,j,none⟩:=by cases j<;>simp[gD]);rw[<-hj,<-hc,ea]);have hgz:w1.heap.size<=wr.heap.size:=hb5.size;(have hone:∀u,u∈du (pack s)->u.oneCell'=true:=by intro u hu;unfold du at hu;obtain⟨c,_,rfl⟩:=List.mem_map.1 hu;rfl);have tR:=hO2;unfold Own at hO2;go_wp2_with(at_builtin;refine fW _ rfl (.tmp 37) (.tmp 38) 100 rfl base 5 i0 (.int .u8 0) 1 1 gC hi hz0 hz1 hz2 rfl (by decide) _ _ _ rfl hO2 ⟨g,0,none⟩ K K (du (pack s)) rfl ?c1 hnews hone ?c3 ?c4 ?c5 ?_);(case c1=>simp[du,hpl]);(case c3=>rw[bH];unfold cW;omega);(case c4=>rw[bH];omega);(case c5=>have:=hB1.size;omega);intro v' w2 hown2 hgrow _;(have hO:Own base w2 v' (l++fq s):=by unfold Own fq;rw[<-CO]at hown2;rw[<-List.append_assoc,bH,bH,hpl];exact hown2);have hB:=(hB1.trans (hb5.mono hbg)).grown hgrow (by have:=hB1.size;omega) (Own.block tR);clear hown2 hgrow iN hB1 hel hO2 tR hnews hone hb5 hrow';go_wp2;go_ret;exact⟨_,rfl,hO,hB⟩
