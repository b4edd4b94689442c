/- WHAT IS HELD OF A TRACE. -/
import Derived.Conc.Beside
import Derived.Conc.CrowdRun
set_option linter.unusedVariables false
open Array renaming getElem?_eq_some_iff->dz,getElem?_map->qx,getElem?_modify->jy,mem_append->sd
open Go renaming Addr->aq,Event->b4,FuncId->fI,Goroutine->ax,HappensBefore->MI,Loc->ki,Program->aC,Trace->dV,TypeId->ar,Value->ae,World->aa,deafBehind->en,stepG->aJ
open Go.Conc renaming Knows->mV,getElem?_append_cases->pj,touchAt->gG,touchAt_old->xf,touch_of->nP,woken->jV
open Go.ConcR renaming WgAt->bM,rd->fR
open Go.MemAct renaming ofEvent->fw,touch?->nO
open Go.MemOp renaming ofEvents->fe
open Go.Trace renaming g?->qv
open Go.World renaming setCell->fT,shape?->cZ
open List renaming append_assoc->ik,mem_cons->cP,mem_toArray->oF,not_mem_nil->jT
open Nat renaming le_refl->bd,lt_of_lt_of_le->b0,lt_or_ge->gH
open Option renaming isSome_iff_exists->AQ,map_eq_some_iff->xg,map_some->iE
open Option.some renaming injEq->jx
open Prod.Lex renaming right->MK
namespace Go.bq
open Go Go.Conc
inductive n1 where
 |live(g:Nat)
 |past(r:Nat)
def n1.has(t:dV):n1->Nat->Prop| .live g,j=>mV t g j| .past r,j=>Before t j r
theorem n1.has.app{t:dV}(u:dV):∀{h:n1}{j:Nat},h.has t j->h.has (t++u) j| .live _,_,k=>Knows.app u k| .past _,_,k=>Before.app u k
def key:ki->Option aq| .cell a=>some a| .obj r=>some ⟨r,0,none⟩|_=>none
theorem Gh{l:ki}{a:aq}(h:key l=some a):l.isMemory=true:=by cases l<;>simp_all[key,Go.Loc.isMemory]
def BA(W:Nat->Option Nat)(l:Loc):Prop:=∃a,key l=some a/\(W a.block).isSome=true
structure dK(Shun:Loc->Prop)(t:dV)(H:Nat->Option n1)(own rd:Nat->aq->Prop)(W:Nat->Option Nat)(B:Nat):Prop where
 clean:∀said,¬Race said t
 own:∀i h a,H i=some h->own i a->∀j x,gG t j=some x->key x.loc=some a->h.has t j
 rd:∀i h a,H i=some h->rd i a->∀j x,gG t j=some x->key x.loc=some a->x.write=true->h.has t j
 wg:∀j x a,gG t j=some x->key x.loc=some a->∀p,W a.block=some p->x.kind= .atomic\/(x.kind= .said/\t.g? j=some p)
 all:∀j x,gG t j=some x->x.loc.isMemory=true->(∃i h,H i=some h/\h.has t j)\/(x.kind= .atomic/\(Shun x.loc\/BA W x.loc))
 seen:∀op∈t,op.act.low B
 norel:∀op∈t,∀a,(W a.block).isSome=true->op.act≠ .mark (.release a)
def BB(own rd:Nat->aq->Prop)(W:Nat->Option Nat)(B:Nat)(i:Nat)(x:Touch):Prop:=∃a,key x.loc=some a/\((W a.block=none/\(own i a\/(rd i a/\x.write=false)\/B<=a.block))\/(x.kind= .atomic/\(W a.block).isSome=true)\/(x.kind= .said/\W a.block=some i))
theorem Gi{act:MemAct}{B:Nat}{x:Touch}{a:aq}(h:act.low B)(hx:act.touch?=some x)(hl:key x.loc=some a):a.block<B:=by cases act with|access e=>simp only[nO,jx]at hx;subst hx;obtain⟨l,wr,sy⟩:=e;cases l<;>simp only[key,jx,reduceCtorEq]at hl<;>(subst hl;exact h)|mark m=>cases m<;>simp only[nO,jx,reduceCtorEq]at hx<;>(subst hx;simp only[key,jx]at hl;subst hl;exact h)|_=>simp[nO]at hx
section
variable{Shun:Loc->Prop}{t u:dV}{H:Nat->Option n1}{own rd own' rd':Nat->aq->Prop}{W:Nat->Option Nat}{B B':Nat}
theorem dK.low(T:dK Shun t H own rd W B){j:Nat}{x:Touch}{a:aq}(h:gG t j=some x)(hl:key x.loc=some a):a.block<B:=by obtain⟨op,ho,hx⟩:=nP h;exact Gi (T.seen op (mem_of_getElem? ho)) hx hl
def Sep(H:Nat->Option n1)(own rd:Nat->aq->Prop):Prop:=∀i j a,i≠j->(H i).isSome=true->(H j).isSome=true->own i a->¬own j a/\¬rd j a
theorem dK.step(T:dK Shun t H own rd W B)(hS:Sep H own rd){i:Nat}(hi:H i=some (.live i))(hB:B<=B')(hu:∀op∈u,op.g=i/\op.act.low B'/\(∀x,op.act.touch?=some x->BB own rd W B i x)/\∀a,(W a.block).isSome=true->op.act≠ .mark (.release a))(hown:∀a,own' i a->own i a\/(B<=a.block))(hrd:∀a,rd' i a->rd i a\/own i a\/B<=a.block)(hother:∀j,j≠i->own' j=own j/\rd' j=rd j)(hlow:∀j a,j≠i->(H j).isSome=true->own j a\/rd j a->a.block<B)(hfree:∀j a,(H j).isSome=true->own j a\/rd j a->W a.block=none):dK Shun (t++u) H own' rd' W B':=by
 have kn:∀j x,gG (t++u) j=some x->t.size<=j->mV (t++u) i j:=by intro j x hx hj;obtain⟨op,ho,_⟩:=nP hx;have:=knows_own ho;rcases pj ho with⟨hlt,_⟩|⟨_,hou⟩;{omega};·rwa[(hu op hou).1]at this
 have old:∀j x,gG (t++u) j=some x->j<t.size->gG t j=some x:=fun j x hx hj=>by rwa[xf hj]at hx
 have new:∀j x,gG (t++u) j=some x->t.size<=j->BB own rd W B i x:=by intro j x hx hj;obtain⟨op,ho,hop⟩:=nP hx;rcases pj ho with⟨hlt,_⟩|⟨_,hou⟩;{omega};·exact(hu op hou).2.2.1 x hop
 refine⟨?_, ?_, ?_, ?_, ?_, ?_, ?_⟩;{intro said;refine noRace_append (T.clean said) (fun op hop=>(hu op hop).1) fun j a ha op hop b hb hc=>?_;obtain⟨ad,hl,hcase⟩:=(hu op hop).2.2.1 b hb;(have hla:key a.loc=some ad:=by rw[hc.1];exact hl);rcases hcase with⟨_,ho|⟨hr,hw⟩|hB'⟩|⟨hk,hW⟩|⟨hk,hW⟩;{exact T.own i _ ad hi ho j a ha hla};{(have haw:a.write=true:=by rcases hc.2.2.1 with h|h;{exact h};·rw[hw]at h;cases h);exact T.rd i _ ad hi hr j a ha hla haw};{have:=T.low ha hla;omega};{obtain⟨p,hp⟩:=AQ.1 hW;rcases T.wg j a ad ha hla p hp with h|⟨h,_⟩;{rcases hc.2.2.2 with x|x|⟨_,x,_⟩;{rw[h]at x;cases x};{rw[hk]at x;cases x};·rw[h]at x;cases x};·rcases hc.2.2.2 with x|x|⟨_,_,x⟩;{rw[h]at x;cases x};{rw[hk]at x;cases x};·rw[hk]at x;cases x};·rcases T.wg j a ad ha hla i hW with h|⟨h,hg⟩;{rcases hc.2.2.2 with x|x|⟨_,x,_⟩;{rw[h]at x;cases x};{rw[hk]at x;cases x};·rw[h]at x;cases x};·obtain⟨y,hy,hyg⟩:=xg.1 hg;have:=knows_own hy;rwa[hyg]at this};{intro k h a hk hok j x hx hl;rcases gH j t.size with hj|hj;{have hx':=old j x hx hj;by_cases hki:k=i;{subst hki;rw[hi]at hk;cases hk;rcases hown a hok with h|h;{exact(T.own k _ a hi h j x hx' hl).app u};·have:=T.low hx' hl;omega};·rw[(hother k hki).1]at hok;exact(T.own k h a hk hok j x hx' hl).app u};·by_cases hki:k=i;{subst hki;rw[hi]at hk;cases hk;exact kn j x hx hj};·rw[(hother k hki).1]at hok;obtain⟨ad,hl',hcase⟩:=new j x hx hj;(have e:ad=a:=by rw[hl]at hl';cases hl';rfl);subst e;(have hks:(H k).isSome=true:=by rw[hk];rfl);(have his:(H i).isSome=true:=by rw[hi];rfl);have hfr:=hfree k ad hks (.inl hok);rcases hcase with⟨_,ho|⟨hr,_⟩|hB'⟩|⟨_,hW⟩|⟨_,hW⟩;{exact absurd ho (hS k i ad hki hks his hok).1};{exact absurd hr (hS k i ad hki hks his hok).2};{have:=hlow k ad hki hks (.inl hok);omega};{rw[hfr]at hW;cases hW};·rw[hfr]at hW;cases hW};{intro k h a hk hrk j x hx hl hw;rcases gH j t.size with hj|hj;{have hx':=old j x hx hj;by_cases hki:k=i;{subst hki;rw[hi]at hk;cases hk;rcases hrd a hrk with h|h|h;{exact(T.rd k _ a hi h j x hx' hl hw).app u};{exact(T.own k _ a hi h j x hx' hl).app u};·have:=T.low hx' hl;omega};·rw[(hother k hki).2]at hrk;exact(T.rd k h a hk hrk j x hx' hl hw).app u};·by_cases hki:k=i;{subst hki;rw[hi]at hk;cases hk;exact kn j x hx hj};·rw[(hother k hki).2]at hrk;obtain⟨ad,hl',hcase⟩:=new j x hx hj;(have e:ad=a:=by rw[hl]at hl';cases hl';rfl);subst e;(have hks:(H k).isSome=true:=by rw[hk];rfl);(have his:(H i).isSome=true:=by rw[hi];rfl);have hfr:=hfree k ad hks (.inr hrk);rcases hcase with⟨_,ho|⟨_,hr⟩|hB'⟩|⟨_,hW⟩|⟨_,hW⟩;{exact absurd hrk (hS i k ad (Ne.symm hki) his hks ho).2};{rw[hr]at hw;cases hw};{have:=hlow k ad hki hks (.inr hrk);omega};{rw[hfr]at hW;cases hW};·rw[hfr]at hW;cases hW};{intro j x a hx hl p hp;rcases gH j t.size with hj|hj;{rw[g?_old hj];exact T.wg j x a (old j x hx hj) hl p hp};·obtain⟨ad,hl',hcase⟩:=new j x hx hj;(have e:ad=a:=by rw[hl]at hl';cases hl';rfl);subst e;rcases hcase with⟨hn,_⟩|⟨hk,_⟩|⟨hk,hW⟩;{rw[hn]at hp;cases hp};{exact .inl hk};·rw[hp]at hW;cases hW;refine .inr ⟨hk, ?_⟩;obtain⟨op,ho,_⟩:=nP hx;rcases pj ho with⟨hlt,_⟩|⟨_,hou⟩;{omega};·simp only[qv,ho,iE];rw[(hu op hou).1]};{intro j x hx hm;rcases gH j t.size with hj|hj;{rcases T.all j x (old j x hx hj) hm with⟨k,h,hk,hh⟩|h;{exact .inl ⟨k,h,hk,hh.app u⟩};·exact .inr h};·exact .inl ⟨i,_,hi,kn j x hx hj⟩};{exact seen_app (fun op hop=>MemAct.low_mono hB (T.seen op hop)) fun op hop=>(hu op hop).2.1};·intro op hop a ha;rcases sd.1 hop with h|h;{exact T.norel op h a ha};·exact(hu op h).2.2.2 a ha
theorem dK.less(T:dK Shun t H own rd W B)(ho:∀i a,own' i a->own i a)(hr:∀i a,rd' i a->rd i a\/own i a):dK Shun t H own' rd' W B:=⟨T.clean,fun i h a hi hx=>T.own i h a hi (ho i a hx),fun i h a hi hx j x hj hl hw=>(hr i a hx).elim (fun y=>T.rd i h a hi y j x hj hl hw) (fun y=>T.own i h a hi y j x hj hl),T.wg,T.all,T.seen,T.norel⟩
end
section
variable{Shun:Loc->Prop}{t u:dV}{H H':Nat->Option n1}{own rd own' rd':Nat->aq->Prop}{W W':Nat->Option Nat}{B B':Nat}
theorem N3{t:dV}{p k:Nat}{x y:MemOp}(hx:x.g=p/\x.act= .go k)(hy:y.g=k/\y.act= .start)(h0:Deaf t p=0)(hk:Deaf t k=0){i:Nat}(h:mV t p i):mV (t++#[x,y]) k i:=by
 have hs:(t++#[x,y]).size=t.size+2:=by simp
 have gx:(t++#[x,y])[t.size]?=some x:=by simp
 have lW:(t++#[x,y])[t.size+1]?=some y:=by rw[Array.getElem?_append_right (by omega)];simp
 have dx:(t++#[x,y]).deaf p t.size=0:=by rw[deaf_old (bd _)];exact h0
 have dy:(t++#[x,y]).deaf k (t.size+1)=0:=by rw[deaf_succ gx,deaf_old (bd _)];show deafStep k (Deaf t k) x=0;rw[hk];unfold deafStep;rw[hx.2]
 have df:MI (t++#[x,y]) t.size (t.size+1):= .single (.inr ⟨.spawn (child:=k) (by rw[act?_of gx,hx.2]) (by rw[act?_of lW,hy.2]) (by simp only[qv,lW,iE,hy.1]),⟨p,by simp only[qv,gx,iE,hx.1],dx⟩,⟨k,by simp only[qv,lW,iE,hy.1],dy⟩⟩);have n0:MI (t++#[x,y]) i t.size:=h.hb_new (bd _) gx hx.1;exact⟨t.size+1,y,lW,hy.1, .inr (n0.trans df)⟩
theorem dK.quiet(T:dK Shun t H own rd W B)(hu:∀op∈u,op.act.touch?=none/\op.act.low B/\∀a,op.act≠ .mark (.release a)):dK Shun (t++u) H own rd W B:=by(have old:∀j x,gG (t++u) j=some x->j<t.size/\gG t j=some x:=by intro j x hx;obtain⟨op,ho,hop⟩:=nP hx;rcases pj ho with⟨hlt,_⟩|⟨_,hou⟩;{exact⟨hlt,by rwa[xf hlt]at hx⟩};·rw[(hu op hou).1]at hop;cases hop);refine⟨fun said=>?_,fun i h a hi hx j x hj hl=>(T.own i h a hi hx j x (old j x hj).2 hl).app u,fun i h a hi hx j x hj hl hw=>(T.rd i h a hi hx j x (old j x hj).2 hl hw).app u,fun j x a hj hl p hp=>?_,fun j x hj hm=>?_,seen_app T.seen fun op hop=>(hu op hop).2.1,fun op hop a ha=>?_⟩;{rintro⟨i,j,hij,⟨a,b,ha,hb,hc⟩,df,gy⟩;obtain⟨hi,ha'⟩:=old i a ha;obtain⟨hj,hb'⟩:=old j b hb;exact T.clean said ⟨i,j,hij,⟨a,b,ha',hb',hc⟩,fun e=>df (hb_app u e),fun e=>gy (hb_app u e)⟩};{rw[g?_old (old j x hj).1];exact T.wg j x a (old j x hj).2 hl p hp};{rcases T.all j x (old j x hj).2 hm with⟨k,h,hk,hh⟩|h;{exact .inl ⟨k,h,hk,hh.app u⟩};·exact .inr h};·rcases sd.1 hop with h|h;{exact T.norel op h a ha};·exact(hu op h).2.2 a
theorem dK.spawn(T:dK Shun t H own rd W B){p c:Nat}{x y:MemOp}(hp:H p=some (.live p))(hc:H c=none)(hx:x.g=p/\x.act= .go c)(hy:y.g=c/\y.act= .start)(hdp:Deaf t p=0)(hdc:Deaf t c=0)(hH:∀i,i≠c->H' i=H i)(hHc:H' c=some (.live c))(ho:∀i a,own' i a->(i=c/\own p a)\/(i≠c/\own i a))(hr:∀i a,rd' i a->(i=c/\(own p a\/rd p a))\/(i≠c/\(own i a\/rd i a))):dK Shun (t++#[x,y]) H' own' rd' W B:=by have Q:=T.quiet (u:=#[x,y]) (fun op hop=>by simp only[oF,cP,jT,or_false]at hop;rcases hop with rfl|rfl;{rw[hx.2];exact⟨rfl,trivial,fun a e=>by cases e⟩};·rw[hy.2];exact⟨rfl,trivial,fun a e=>by cases e⟩);have key:∀j a b,gG t j=some b->key b.loc=some a->mV t p j->mV (t++#[x,y]) c j:=fun j a b _ _ k=>N3 hx hy hdp hdc k;(have lt:∀j b,gG (t++#[x,y]) j=some b->gG t j=some b:=by intro j b hb;obtain⟨op,ho',hop⟩:=nP hb;rcases pj ho' with⟨hlt,_⟩|⟨_,hou⟩;{rwa[xf hlt]at hb};·simp only[oF,cP,jT,or_false]at hou;rcases hou with rfl|rfl;{rw[hx.2]at hop;cases hop};·rw[hy.2]at hop;cases hop);refine⟨Q.clean,fun i h a hi hxo j b hj hl=>?_,fun i h a hi hxo j b hj hl hw=>?_,Q.wg,fun j b hj hm=>?_,Q.seen,Q.norel⟩;{rcases ho i a hxo with⟨rfl,hop⟩|⟨hic,hoi⟩;{rw[hHc]at hi;cases hi;exact key j a b (lt j b hj) hl (T.own p _ a hp hop j b (lt j b hj) hl)};·rw[hH i hic]at hi;exact Q.own i h a hi hoi j b hj hl};{rcases hr i a hxo with⟨rfl,hop⟩|⟨hic,hoi⟩;{rw[hHc]at hi;cases hi;exact key j a b (lt j b hj) hl (hop.elim (fun o=>T.own p _ a hp o j b (lt j b hj) hl) (fun o=>T.rd p _ a hp o j b (lt j b hj) hl hw))};·rw[hH i hic]at hi;exact hoi.elim (fun o=>Q.own i h a hi o j b hj hl) (fun o=>Q.rd i h a hi o j b hj hl hw)};·rcases Q.all j b hj hm with⟨i,h,hi,hh⟩|h;{(have hic:i≠c:=by rintro rfl;rw[hc]at hi;cases hi);exact .inl ⟨i,h,by rw[hH i hic];exact hi,hh⟩};·exact .inr h
theorem dK.release(T:dK Shun t H own rd W B){i:Nat}{y:MemOp}{z:aq}(hi:H i=some (.live i))(hy:y.g=i/\y.act= .mark (.releaseMerge z))(hz:z.block<B)(hH:∀j,j≠i->H' j=H j)(hHi:H' i=some (.past t.size)):dK Shun (t++#[y]) H' own rd W B:=by
 have Q:=T.quiet (u:=#[y]) (fun op hop=>by simp only[oF,cP,jT,or_false]at hop;subst hop;rw[hy.2];exact⟨rfl,hz,fun a e=>by cases e⟩);have lW:(t++#[y])[t.size]?=some y:=by simp
 have key:∀j,j<t.size->mV (t++#[y]) i j->Before (t++#[y]) j t.size:=by rintro j hj ⟨q,z,hq,hzg,hb⟩;rcases gH q t.size with hlt|hge;{exact .inr (hb.hb (hb_po hlt hq lW (hzg.trans hy.1.symm)))};·(have N4:q=t.size:=by have:=lt_size_of_getElem? hq;simp at this;omega);rw[N4]at hb;exact hb
 have BC:∀j b,gG (t++#[y]) j=some b->j<t.size:=by intro j b hb;obtain⟨op,ho',hop⟩:=nP hb;rcases pj ho' with⟨hlt,_⟩|⟨_,hou⟩;{exact hlt};·simp only[oF,cP,jT,or_false]at hou;subst hou;rw[hy.2]at hop;cases hop
 refine⟨Q.clean,fun k h a hk hx j x hj hl=>?_,fun k h a hk hx j x hj hl hw=>?_,Q.wg,fun j x hj hm=>?_,Q.seen,Q.norel⟩;{by_cases e:k=i;{subst e;rw[hHi]at hk;cases hk;exact key j (BC j x hj) (Q.own k _ a hi hx j x hj hl)};·rw[hH k e]at hk;exact Q.own k h a hk hx j x hj hl};{by_cases e:k=i;{subst e;rw[hHi]at hk;cases hk;exact key j (BC j x hj) (Q.rd k _ a hi hx j x hj hl hw)};·rw[hH k e]at hk;exact Q.rd k h a hk hx j x hj hl hw};·rcases Q.all j x hj hm with⟨k,h,hk,hh⟩|h;{by_cases e:k=i;{subst e;rw[hi]at hk;cases hk;exact .inl ⟨k,_,hHi,key j (BC j x hj) hh⟩};·exact .inl ⟨k,h,by rw[hH k e];exact hk,hh⟩};·exact .inr h
def n2(t:dV)(z:aq)(r:Nat):Prop:=t.act? r=some (.mark (.releaseMerge z))/\t.heard r
theorem n2.app{t:dV}{z:aq}{r:Nat}(h:n2 t z r)(u:dV):n2 (t++u) z r:=by have hr:=lt_of_act? h.1;exact⟨by rw[act?_old hr];exact h.1,(heard_old hr).2 h.2⟩
theorem n2.new{t:dV}{z:aq}{y:MemOp}{i:Nat}(hy:y.g=i/\y.act= .mark (.releaseMerge z))(hd:Deaf t i=0):n2 (t++#[y]) z t.size:=by(have lW:(t++#[y])[t.size]?=some y:=by simp);exact⟨by rw[act?_of lW,hy.2],i,by simp only[qv,lW,iE,hy.1],by rw[deaf_old (bd _)];exact hd⟩
theorem N5{t:dV}{z:aq}{r p:Nat}{y:MemOp}(h:n2 t z r)(hy:y.g=p/\y.act= .mark (.acquire z))(hd:Deaf t p=0)(hn:∀op∈t,op.act≠ .mark (.release z)){j:Nat}(hb:Before t j r):mV (t++#[y]) p j:=by(have lW:(t++#[y])[t.size]?=some y:=by simp);have hr:=lt_of_act? h.1;have df:MI (t++#[y]) r t.size:= .single (.inr ⟨.marked (a:=z) hr (.inr (h.app #[y]).1) (by rw[act?_of lW,hy.2]) (fun k h1 h2=>by rw[act?_old h2];intro e;obtain⟨op,ho,hoa⟩:=xg.1 e;exact hn op (mem_of_getElem? ho) hoa),(h.app #[y]).2,⟨p,by simp only[qv,lW,iE,hy.1],by rw[deaf_old (bd _)];exact hd⟩⟩);exact⟨t.size,y,lW,hy.1, .inr ((hb.app #[y]).hb df)⟩
theorem dK.acquire(T:dK Shun t H own rd W B){p:Nat}{y:MemOp}{z:aq}(K:Nat->Prop)(hp:H p=some (.live p))(N6:¬K p)(hy:y.g=p/\y.act= .mark (.acquire z))(hd:Deaf t p=0)(hz:z.block<B)(hW:(W z.block).isSome=true)(hK:∀k,K k->∃r,H k=some (.past r)/\n2 t z r)(hH:∀k,¬K k->H' k=H k)(Gj:∀k,K k->H' k=none)(ho:∀i a,own' i a->own i a\/(i=p/\∃k,K k/\own k a))(hr:∀i a,rd' i a->rd i a\/own i a\/(i=p/\∃k,K k/\(own k a\/rd k a))):dK Shun (t++#[y]) H' own' rd' W B:=by
 have Q:=T.quiet (u:=#[y]) (fun op hop=>by simp only[oF,cP,jT,or_false]at hop;subst hop;rw[hy.2];exact⟨rfl,hz,fun a e=>by cases e⟩);have lt:∀j b,gG (t++#[y]) j=some b->gG t j=some b:=by intro j b hb;obtain⟨op,ho',hop⟩:=nP hb;rcases pj ho' with⟨hlt,_⟩|⟨_,hou⟩;{rwa[xf hlt]at hb};·simp only[oF,cP,jT,or_false]at hou;subst hou;rw[hy.2]at hop;cases hop
 have key:∀k r j,H k=some (.past r)->K k->Before t j r->mV (t++#[y]) p j:=by intro k r j hk N7 hb;obtain⟨r',hr',hs⟩:=hK k N7;rw[hk]at hr';cases hr';exact N5 hs hy hd (fun op hop=>T.norel op hop z hW) hb
 have hp':H' p=some (.live p):=by rw[hH p N6];exact hp
 refine⟨Q.clean,fun i h a hi hx j x hj hl=>?_,fun i h a hi hx j x hj hl hw=>?_,Q.wg,fun j x hj hm=>?_,Q.seen,Q.norel⟩;{(have hiK:¬K i:=fun e=>by rw[Gj i e]at hi;cases hi);rw[hH i hiK]at hi;rcases ho i a hx with h1|⟨rfl,k,hk,hok⟩;{exact Q.own i h a hi h1 j x hj hl};·rw[hp]at hi;cases hi;obtain⟨r,hr',_⟩:=hK k hk;exact key k r j hr' hk (T.own k _ a hr' hok j x (lt j x hj) hl)};{(have hiK:¬K i:=fun e=>by rw[Gj i e]at hi;cases hi);rw[hH i hiK]at hi;rcases hr i a hx with h1|h1|⟨rfl,k,hk,hok⟩;{exact Q.rd i h a hi h1 j x hj hl hw};{exact Q.own i h a hi h1 j x hj hl};·rw[hp]at hi;cases hi;obtain⟨r,hr',_⟩:=hK k hk;exact key k r j hr' hk (hok.elim (fun o=>T.own k _ a hr' o j x (lt j x hj) hl) (fun o=>T.rd k _ a hr' o j x (lt j x hj) hl hw))};·rcases T.all j x (lt j x hj) hm with⟨k,h,hk,hh⟩|h;{by_cases e:K k;{obtain⟨r,hr',_⟩:=hK k e;rw[hk]at hr';cases hr';exact .inl ⟨p,_,hp',key k r j hk e hh⟩};·exact .inl ⟨k,h,by rw[hH k e];exact hk,hh.app #[y]⟩};·exact .inr h
theorem dK.group(T:dK Shun t H own rd W B){z:Nat}(hno:∀j x a,gG t j=some x->key x.loc=some a->a.block≠z)(hrel:∀op∈t,∀a,a.block=z->op.act≠ .mark (.release a))(hW:∀b,b≠z->W' b=W b):dK Shun t H own rd W' B:=by refine⟨T.clean,T.own,T.rd,fun j x a hj hl q hq=>?_,fun j x hj hm=>?_,T.seen,fun op hop a ha=>?_⟩;{rw[hW _ (hno j x a hj hl)]at hq;exact T.wg j x a hj hl q hq};{rcases T.all j x hj hm with h|⟨h1,h2⟩;{exact .inl h};·refine .inr ⟨h1,h2.imp id ?_⟩;rintro⟨a,hl,ha⟩;exact⟨a,hl,by rw[hW _ (hno j x a hj hl)];exact ha⟩};·by_cases e:a.block=z;{exact hrel op hop a e};·rw[hW _ e]at ha;exact T.norel op hop a ha
theorem dK.first(P0:Past Shun B t)(o r:aq->Prop)(ho:∀a l,o a\/r a->key l=some a->¬Shun l):dK Shun t (fun i=>if i=0 then some (.live 0)else none) (fun i a=>i=0/\o a) (fun i a=>i=0/\r a) (fun _=>none) B:=by(have kn:∀j x a,gG t j=some x->key x.loc=some a->(o a\/r a)->mV t 0 j:=fun j x a hj hl h=>by rcases P0.known j x hj (Gh hl)with k|⟨k,_⟩;{exact k};·exact absurd k (ho a _ h hl));refine⟨P0.clean,fun i h a hi hx j x hj hl=>?_,fun i h a hi hx j x hj hl hw=>?_,fun j x a hj hl p hp=>(by cases hp),fun j x hj hm=>?_,P0.seen,fun op hop a ha=>(by cases ha)⟩;{obtain⟨rfl,hs⟩:=hx;simp only[if_true,jx]at hi;subst hi;exact kn j x a hj hl (.inl hs)};{obtain⟨rfl,hs⟩:=hx;simp only[if_true,jx]at hi;subst hi;exact kn j x a hj hl (.inr hs)};·rcases P0.known j x hj hm with k|⟨k,ka⟩;{exact .inl ⟨0, .live 0,by simp,k⟩};·exact .inr ⟨ka, .inl k⟩
theorem dK.N8(T:dK Shun t H own rd W B)(h0:H 0=some (.live 0))(hH:∀i,i≠0->H i=none)(N9:∀a l,own' 0 a->key l=some a->W a.block=none/\¬Shun l):dK Shun t H own' rd W B:=by refine⟨T.clean,fun i h a hi hx j x hj hl=>?_,T.rd,T.wg,T.all,T.seen,T.norel⟩;by_cases e:i=0;{subst e;rw[h0]at hi;cases hi;obtain⟨hW,hS⟩:=N9 a x.loc hx hl;rcases T.all j x hj (Gh hl)with⟨k,h,hk,hh⟩|⟨_,h|⟨b,hb,hbW⟩⟩;{by_cases e2:k=0;{subst e2;rw[h0]at hk;cases hk;exact hh};·rw[hH k e2]at hk;cases hk};{exact absurd h hS};·rw[hl]at hb;cases hb;rw[hW]at hbW;cases hbW};·rw[hH i e]at hi;cases hi
def lh(t:dV):Prop:=∀j g,t.g? j=some g->g≠0->∀x,gG t j=some x->x.loc.isMemory=true->x.kind= .atomic->¬t.heard j\/mV t 0 j
theorem lh.app{t u:dV}(h:lh t)(hu:∀j g x,t.size<=j->(t++u).g? j=some g->g≠0->gG (t++u) j=some x->x.kind= .atomic->¬(t++u).heard j):lh (t++u):=by intro j g hg hne x hx hm hk;rcases gH j t.size with hj|hj;{rw[g?_old hj]at hg;rw[xf hj]at hx;exact(h j g hg hne x hx hm hk).imp (fun n e=>n ((heard_old hj).1 e)) (·.app u)};·exact .inl (hu j g x hj hg hne hx hk)
theorem lh.mine{t:dV}(h:lh t){i:Nat}(fn:fI)(pos:String){es:Array b4}(hes:i=0\/∀j e x,es[j]?=some e->(fw e).touch?=some x->x.kind= .atomic->0<en (Deaf t i) (es.extract 0 j)):lh (t++fe i fn pos es):=by
 refine h.app fun j g x hj hg hne hx hk hh=>?_;obtain⟨op,ho,hop⟩:=nP hx;have hg':op.g=g:=by simpa[qv,ho]using hg
 have hje:(fe i fn pos es)[j-t.size]?=some op:=by rw[Array.getElem?_append]at ho;simpa[Nat.not_lt.2 hj]using ho
 rw[ofEvents_eq,qx]at hje;obtain⟨e,he,rfl⟩:=xg.1 hje;simp only at hg' hop;rcases hes with h0|hes;{exact hne (hg'.symm.trans h0)};·have hd:=hes _ e x he hop hk;(have hjs:j-t.size<=es.size:=by rcases gH (j-t.size) es.size with h'|h';{omega};·rw[Array.getElem?_eq_none h']at he;cases he);obtain⟨g2,hg2,hd2⟩:=hh;rw[hg]at hg2;cases hg2;subst hg';have:=deaf_inside t i fn pos es (j-t.size) hjs;rw[show t.size+(j-t.size)=j by omega,hd2]at this;omega
theorem lh.quiet{t u:dV}(h:lh t)(hu:∀op∈u,op.act.touch?=none):lh (t++u):=by refine h.app fun j g x hj hg hne hx hk hh=>?_;obtain⟨op,ho,hop⟩:=nP hx;rcases pj ho with⟨hlt,_⟩|⟨_,hou⟩;{omega};·rw[hu op hou]at hop;cases hop
theorem lh.first{Shun:Loc->Prop}{B:Nat}{t:dV}(P0:Past Shun B t):lh t:=by intro j g hg hne x hx hm _;by_cases hh:t.heard j;{refine .inr ?_;obtain⟨q,hq,hb⟩:=P0.over j g hg hne ⟨x,hx,hm, .inr hh⟩;obtain⟨y,hy,hyg⟩:=xg.1 hq;exact⟨q,y,hy,hyg, .inr hb⟩};·exact .inl hh
theorem dK.last(T:dK Shun t H own rd W B)(h0:H 0=some (.live 0))(hH:∀i,i≠0->H i=none)(hd:Deaf t 0=0)(hq:lh t):Past (fun l=>Shun l\/BA W l) B t:=by
 have kn:∀j x,gG t j=some x->x.loc.isMemory=true->mV t 0 j\/(x.kind= .atomic/\(Shun x.loc\/BA W x.loc)):=by intro j x hj hm;rcases T.all j x hj hm with⟨i,h,hi,hh⟩|h;{by_cases e:i=0;{subst e;rw[h0]at hi;cases hi;exact .inl hh};·rw[hH i e]at hi;cases hi};·exact .inr h
 refine⟨T.clean,fun j x hj hm=>(kn j x hj hm).imp id fun h=>⟨h.2,h.1⟩,fun j g hg hne hc=>?_,hd,T.seen⟩;obtain⟨x,hx,hm,hk⟩:=hc;have:mV t 0 j:=by rcases kn j x hx hm with h|⟨h,_⟩;{exact h};·rcases hk with hk|hk;{exact absurd h hk};·exact(hq j g hg hne x hx hm h).resolve_left (fun n=>n hk)
 obtain⟨q,y,hy,hyg,hb⟩:=this;rcases hb with rfl|hb;{(have:t.g? j=some 0:=by simp[qv,hy,hyg]);rw[this]at hg;cases hg;exact absurd rfl hne};·exact⟨q,by simp[qv,hy,hyg],hb⟩
end
end Go.bq
namespace Go.bq
open Go Go.Conc
open Go.ConcR(KK WgAt wgBlock stA smA wr mk)
open Go.ConcN(WgLive)
def ia(w:aa)(b:Nat):Nat×Nat:=match w.heap[b]? with|some (.cells _ _ f)=>f|_=>(0,0)
structure dk(a:aq)(w w':aa):Prop where
 cell:w'.cell? a=w.cell? a
 frozen:w'.frozen? a=w.frozen? a
 shape:w'.shape? a.block=w.shape? a.block
 obj:w.shape? a.block=none->w'.heap[a.block]?=w.heap[a.block]?
 pair:ia w' a.block=ia w a.block
theorem dk.refl(a:aq)(w:aa):dk a w w:=⟨rfl,rfl,rfl,fun _=>rfl,rfl⟩
theorem dk.trans{a:aq}{w w' w'':aa}(h:dk a w w')(h':dk a w' w''):dk a w w'':=⟨h'.cell.trans h.cell,h'.frozen.trans h.frozen,h'.shape.trans h.shape,fun e=>(h'.obj (h.shape.trans e)).trans (h.obj e),h'.pair.trans h.pair⟩
abbrev Perm:=aq->Prop
structure cQ where
 ok:Perm->Perm->aa->Prop
 nd:∀{own rd:Perm}{w w':aa},(∀a,own a\/rd a->dk a w w')->w.heap.size<=w'.heap.size->ok own rd w->ok own rd w'
inductive ca where
 |work|jB(vs:Nat)|reg|awake|rel|kz|kA|kB
def ca.early:ca->Bool| .work| .jB _| .reg| .awake=>true|_=>false
structure ao where
 main:Bool
 own:Perm
 rd:Perm
 deaf:Nat
 cur:Option Nat
 pend:Bool
 bV:Nat
 kids:List cQ
 up:Option (Nat×cQ)
section
variable(ty:ar)
structure aQ(c:ao)(w w₁:aa):Prop where
 size:w.heap.size<=w₁.heap.size
 same:∀a,c.own a\/c.rd a->dk a w w₁
 shape:∀b s,w.shape? b=some s->w₁.shape? b=some s
 cur:∀z,c.cur=some z->WgLive ty z w->WgLive ty z w₁
 up:∀z v,c.up=some (z,v)->WgLive ty z w->WgLive ty z w₁
 os:w₁.os=w.os
 tape:w₁.tape=w.tape
 output:w₁.output=w.output
theorem aQ.refl(c:ao)(w:aa):aQ ty c w w:=⟨bd _,fun a _=> .refl a w,fun _ _ h=>h,fun _ _ h=>h,fun _ _ _ h=>h,rfl,rfl,rfl⟩
theorem aQ.trans{c:ao}{w w₁ w₂:aa}(h:aQ ty c w w₁)(h':aQ ty c w₁ w₂):aQ ty c w w₂:=⟨Nat.le_trans h.size h'.size,fun a ha=>(h.same a ha).trans (h'.same a ha),fun b s x=>h'.shape b s (h.shape b s x),fun z e x=>h'.cur z e (h.cur z e x),fun z v e x=>h'.up z v e (h.up z v e x),h'.os.trans h.os,h'.tape.trans h.tape,h'.output.trans h.output⟩
theorem aQ.at(c:ao)(w:aa)(d:Nat):aQ ty c w (w.at d):=⟨bd _,fun _ _=>⟨rfl,rfl,rfl,fun _=>rfl,rfl⟩,fun _ _ h=>h,fun _ _ h=>h,fun _ _ _ h=>h,rfl,rfl,rfl⟩
def BD(c c':ao)(w w':aa)(e:b4):Prop:=(∀x,(fw e).touch?=some x->∃a,key x.loc=some a/\a.block<w'.heap.size/\((x.kind= .plain/\(c.own a\/(c.rd a/\x.write=false)\/(w.heap.size<=a.block/\c'.cur≠some a.block)))\/(x.kind= .atomic/\(c.cur=some a.block\/∃v,c.up=some (a.block,v)))\/(x.kind= .said/\c.cur=some a.block)))/\(fw e).low w'.heap.size/\(∀a,e.loc≠ .mark (.release a))
structure Ord(c c':ao)(w w':aa)(es:Array b4):Prop where
 size:w.heap.size<=w'.heap.size
 out:∀b,b<w.heap.size->(∀o,¬c.own ⟨b,o,none⟩)->w'.heap[b]?=w.heap[b]?
 cell:∀a,a.block<w.heap.size->¬c.own a->dk a w w'
 shape:∀b s,w.shape? b=some s->w'.shape? b=some s
 os:w'.os=w.os
 tape:w'.tape=w.tape
 output:w'.output=w.output
 evs:∀e∈es,BD c c' w w' e
 mn:∀j e x,es[j]?=some e->(fw e).touch?=some x->x.kind= .atomic->0<en c.deaf (es.extract 0 j)
 main:c'.main=c.main
 deaf:c'.deaf=en c.deaf es
 own:∀a,c'.own a->(c.own a\/w.heap.size<=a.block\/(c.main=true/\c.cur=none/\c.rd a))/\a.block<w'.heap.size
 rd:∀a,c'.rd a->(c.rd a\/c.own a\/w.heap.size<=a.block)/\a.block<w'.heap.size
 pend:c'.pend=c.pend
 bV:c'.bV=c.bV
 kids:c'.kids=c.kids
 up:c'.up=c.up
 cur:c'.cur=c.cur\/(c.cur=none/\∃z,c'.cur=some z/\w.heap.size<=z/\z<w'.heap.size/\bM ty z w' 0 0/\c.pend=false/\c.kids=[]/\∀a,c'.own a\/c'.rd a->a.block≠z)
inductive Tree:Type 1 where
 |node(bC:Type)(f:bC->Tree)
variable(P:aC)(Fin:Perm->Perm->ax->aa->Prop)
def lj(l:List (Perm×Perm))(pick:Perm×Perm->Perm):Perm:=fun a=>∃x∈l,pick x a
def Script:Tree->ca->ao->ax->aa->Prop| .node _ f,s,c,g,w=>g.status= .running/\g.offers=none/\∀w₁,aQ ty c w w₁->(s.early=true/\∃i,∃g' w' es c',aJ P c.main g w₁= .go g' w' es/\Ord ty c c' w₁ w' es/\Script (f i) s c' g' w')\/(s.early=false/\(∃z v,c.up=some (z,v))/\∃i,∃g' es,aJ P c.main g w₁= .go g' w₁ es/\(∀e∈es,e.mute=true)/\Script (f i) s {c with deaf:=en c.deaf es} g' w₁)\/(s= .work/\c.pend=false/\0<c.deaf/\∃z,c.cur=some z/\∀v:Nat,v<2147483647->bM ty z w₁ (v*KK) 0->∃i,∃g',aJ P c.main g w₁= .go g' (w₁.setCell (stA z) (.int .u64 ((v+1:Nat)*KK))) #[fR (stA z),wr (stA z)]/\Script (f i) .work {c with pend:=true} g' (w₁.setCell (stA z) (.int .u64 ((v+1:Nat)*KK))))\/(s= .work/\c.pend=true/\c.deaf=0/\c.kids.length<1000/\∃z,c.cur=some z/\∃i₁ i₂,∃(g' child:ax)(o r o' r':Perm)(v:cQ),aJ P c.main g w₁= .spawn g' child w₁ #[]/\child.status= .running/\(∀a,o a->c.own a)/\(∀a,o' a->c.own a/\¬o a/\¬r a)/\(∀a,r a->(c.own a\/c.rd a)/\¬o' a)/\(∀a,r' a->(c.own a\/c.rd a)/\¬o a)/\Script (f i₁) .work {main:=false,own:=o,rd:=r,deaf:=0,cur:=none,pend:=false,bV:=0,kids:=[],up:=some (z,v)} child w₁/\Script (f i₂) .work {c with own:=o',rd:=r',pend:=false,bV:=c.bV+1,kids:=v::c.kids} g' w₁)\/(s= .work/\c.pend=false/\0<c.deaf/\∃z,c.cur=some z/\∀v:Nat,v<=c.bV->bM ty z w₁ (v*KK) 0->∃i,∃g',aJ P c.main g w₁= .go g' w₁ #[fR (stA z)]/\Script (f i) (if v=0 then .awake else .jB v) {c with bV:=v} g' w₁)\/(∃vs,s= .jB vs/\0<c.deaf/\∃z,c.cur=some z/\∀v:Nat,v<=vs->bM ty z w₁ (v*KK) 0->(v=vs->∃i,∃g',aJ P c.main g w₁= .go g' (w₁.setCell (stA z) (.int .u64 (v*KK+1))) #[fR (stA z),wr (stA z)]/\Script (f i) .reg c g' (w₁.setCell (stA z) (.int .u64 (v*KK+1))))/\(v≠vs->∃i,∃g',aJ P c.main g w₁= .go g' w₁ #[fR (stA z)]/\Script (f i) .work {c with bV:=vs-1} g' w₁))\/(s= .reg/\∃z,c.cur=some z/\((∃st,bM ty z w₁ st 0)->aJ P c.main g w₁= .go {g with status:= .blocked} w₁ #[])/\(bM ty z w₁ 0 1->∃i,∃g',aJ P c.main g w₁= .go g' (w₁.setCell (smA z) (.int .u32 0)) (semEvents (smA z))/\Script (f i) .awake c g' (w₁.setCell (smA z) (.int .u32 0))))\/(s= .awake/\0<c.deaf/\∃z,c.cur=some z/\(bM ty z w₁ 0 0->∃i,∃g',aJ P c.main g w₁= .go g' w₁ #[fR (stA z)]/\Script (f i) .awake c g' w₁))\/(s= .awake/\c.deaf=0/\∃z,c.cur=some z/\∃g',aJ P c.main g w₁= .go g' w₁ #[mk (.acquire (stA z))]/\∀l:List (Perm×Perm),l.length=c.kids.length->(∀x∈l.zip c.kids,x.2.ok x.1.1 x.1.2 w₁)->∃i,Script (f i) .work {c with own:=fun a=>c.own a\/lj l (·.1) a,rd:=fun a=>c.rd a\/lj l (·.2) a,cur:=none,bV:=0,kids:=[]} g' w₁)\/(s= .work/\c.cur=none/\c.deaf=0/\∃z v,c.up=some (z,v)/\v.ok c.own c.rd w₁/\∃i,∃g',aJ P c.main g w₁= .go g' w₁ #[mk (.releaseMerge (stA z))]/\Script (f i) .rel {c with own:=fun _=>False,rd:=fun _=>False} g' w₁)\/(s= .rel/\0<c.deaf/\∃z v,c.up=some (z,v)/\∀v wt:Nat,wt<=1->v<2147483647->bM ty z w₁ ((v+1:Nat)*KK+wt) 0->∃g',aJ P c.main g w₁= .go g' (w₁.setCell (stA z) (.int .u64 (v*KK+wt))) #[fR (stA z),wr (stA z)]/\((v=0/\wt=1)->∃i,Script (f i) .kz c g' (w₁.setCell (stA z) (.int .u64 (v*KK+wt))))/\(¬(v=0/\wt=1)->∃q,QuitsD P q c.deaf g'))\/(s= .kz/\0<c.deaf/\∃z v,c.up=some (z,v)/\(bM ty z w₁ 1 0->∃i,∃g',aJ P c.main g w₁= .go g' w₁ #[fR (stA z)]/\Script (f i) .kA c g' w₁))\/(s= .kA/\0<c.deaf/\∃z v,c.up=some (z,v)/\(bM ty z w₁ 1 0->∃i,∃g',aJ P c.main g w₁= .go g' (w₁.setCell (stA z) (.int .u64 0)) #[wr (stA z)]/\Script (f i) .kB c g' (w₁.setCell (stA z) (.int .u64 0))))\/(s= .kB/\mayWake P g=true/\∃z v,c.up=some (z,v)/\(bM ty z w₁ 0 0->∃g',aJ P c.main g w₁= .go g' (w₁.setCell (smA z) (.int .u32 1)) (semEvents (smA z))/\g'.status= .running/\∃q,QuitsD P q c.deaf g'))\/(s= .work/\c.main=true/\c.cur=none/\c.deaf=0/\Fin c.own c.rd g w₁)
variable{ty P Fin}
theorem Script.rely{n:Tree}{s:ca}{c:ao}{g:ax}{w w₁:aa}(h:Script ty P Fin n s c g w)(hr:aQ ty c w w₁):Script ty P Fin n s c g w₁:=by cases n with|node bC f=>exact⟨h.1,h.2.1,fun w₂ h₂=>h.2.2 w₂ (hr.trans ty h₂)⟩
theorem Script.running{n:Tree}{s:ca}{c:ao}{g:ax}{w:aa}(h:Script ty P Fin n s c g w):g.status= .running/\g.offers=none:=by cases n with|node bC f=>exact⟨h.1,h.2.1⟩
end
inductive bf where
 |act(n:Tree)(s:ca)(c:ao)
 |blk(n:Tree)(c:ao)
 |quit(q:Nat)
inductive jX where
 |early(up:Option (Nat×cQ))
 |rel(up:Option (Nat×cQ))
 |last(j:Nat)(up:Option (Nat×cQ))
 |gone
def bf.aY:bf->jX| .act _ .rel c=> .rel c.up| .act _ .kz c=> .last 4 c.up| .act _ .kA c=> .last 3 c.up| .act _ .kB c=> .last 2 c.up| .act _ _ c=> .early c.up| .blk _ c=> .early c.up| .quit _=> .gone
def jX.counted:jX->Bool| .early _| .rel _=>true|_=>false
def bf.cM:bf->Option ao| .act _ s c=>if s.early then some c else none| .blk _ c=>some c| .quit _=>none
def bf.dR:bf->Option ca| .act _ s _=>if s.early then some s else none| .blk _ _=>some .reg| .quit _=>none
def bf.kC:bf->Bool| .blk _ _=>true|_=>false
structure dh where
 role:Nat->bf
 H:Nat->Option n1
 own:Nat->Perm
 rd:Nat->Perm
 W:Nat->Option Nat
 par:Nat->Nat
 kids:Nat->List Nat
inductive kD{α β:Type}(R:α->β->Prop):List α->List β->Prop
 |nil:kD R [] []
 |cons{a:α}{b:β}{l:List α}{m:List β}:R a b->kD R l m->kD R (a::l) (b::m)
theorem kD.imp{α β:Type}{R S:α->β->Prop}{l:List α}{m:List β}(h:kD R l m)(hs:∀a b,a∈l->R a b->S a b):kD S l m:=by induction h with|nil=>exact .nil|cons h _ ih=>exact .cons (hs _ _ (by simp) h) (ih fun a b ha=>hs a b (by simp[ha]))
theorem kD.get{α β:Type}{R:α->β->Prop}{l:List α}{m:List β}(h:kD R l m){a:α}(ha:a∈l):∃b∈m,R a b:=by induction h with|nil=>cases ha|cons h _ ih=>rcases cP.1 ha with rfl|ha;{exact⟨_,by simp,h⟩};·obtain⟨b,hb,hr⟩:=ih ha;exact⟨b,by simp[hb],hr⟩
theorem kD.length{α β:Type}{R:α->β->Prop}{l:List α}{m:List β}(h:kD R l m):l.length=m.length:=by induction h with|nil=>rfl|cons _ _ ih=>simp[ih]
section
variable(ty:ar)(P:aC)(Fin:Perm->Perm->ax->aa->Prop)
def ln(G:dh)(t:dV)(w:aa)(z k:Nat)(v:cQ):Prop:=(∃r,G.H k=some (.past r)/\n2 t (stA z) r)/\v.ok (G.own k) (G.rd k) w
def uA(G:dh)(N:Nat)(t:dV)(w:aa)(z i k:Nat)(v:cQ):Prop:=i<k/\k<N/\G.par k=i/\match(G.role k).aY with| .early up=>up=some (z,v)| .rel up=>up=some (z,v)/\ln G t w z k v| .last _ up=>up=some (z,v)/\ln G t w z k v| .gone=>ln G t w z k v
def Count(G:dh)(i:Nat):Nat:=(G.kids i).countP fun k=>(G.role k).aY.counted
def jc(G:dh)(i:Nat):Prop:=∀k∈G.kids i,(G.role k).aY.counted=true\/(G.role k).aY= .gone
def kE(G:dh)(i:Nat):Prop:=∀k∈G.kids i,(G.role k).aY= .gone
def Mode(G:dh)(w:aa)(i z:Nat)(c:ao):ca->Prop| .work=>bM ty z w (((Count G i+(if c.pend then 1 else 0):Nat):Int)*KK) 0/\jc G i/\Count G i<=c.bV| .jB vs=>c.pend=false/\bM ty z w ((Count G i:Int)*KK) 0/\jc G i/\Count G i<=vs/\1<=vs| .reg=>c.pend=false/\((bM ty z w ((Count G i:Int)*KK+1) 0/\jc G i/\1<=Count G i)\/(∃L∈G.kids i,∃j up,(G.role L).aY= .last j up/\(∀k∈G.kids i,k≠L->(G.role k).aY= .gone)/\bM ty z w (if j=2 then 0 else 1) 0)\/(kE G i/\bM ty z w 0 1/\(G.role i).kC=false))| .awake=>c.pend=false/\kE G i/\bM ty z w 0 0|_=>False
def fj(G:dh)(N:Nat)(t:dV)(w:aa)(i:Nat):Prop:=match(G.role i).cM,(G.role i).dR with
 |some c,some s=>match c.cur with|some z=>G.W z=some i/\c.kids.length<1001/\kD (uA G N t w z i) (G.kids i) c.kids/\(G.kids i).Nodup/\Mode ty G w i z c s|none=>G.kids i=[]/\c.kids=[]/\c.pend=false/\s= .work
 |_,_=>G.kids i=[]
def Loc(G:dh)(t:dV)(w:aa)(i:Nat)(g:ax):bf->Prop| .act n s c=>Script ty P Fin n s c g w/\c.main=(i==0)/\Deaf t i=c.deaf/\(c.up=none↔i=0)/\(if s.early then G.H i=some (.live i)/\G.own i=c.own/\G.rd i=c.rd else(∃r,G.H i=some (.past r))/\c.cur=none/\∀a,¬c.own a/\¬c.rd a)| .blk n c=>g.status= .blocked/\g.offers=none/\Script ty P Fin n .reg c {g with status:= .running} w/\c.main=(i==0)/\Deaf t i=c.deaf/\(c.up=none↔i=0)/\G.H i=some (.live i)/\G.own i=c.own/\G.rd i=c.rd| .quit q=>QuitsD P q (Deaf t i) g/\(∀j,G.H i≠some (.live j))/\i≠0
structure Base(Shun:ki->Prop)(aB:Nat)(Z:Nat->Prop)(w₀:aa)(G:dh)(w:aa):Prop where
 size:aB<=w.heap.size
 os:w.os=w₀.os
 tape:w.tape=w₀.tape
 output:w.output=w₀.output
 jC:∀b p,G.W b=some p->aB<=b/\b<w.heap.size
 low:∀i a,(G.H i).isSome=true->G.own i a\/G.rd i a->a.block<w.heap.size/\G.W a.block=none/\¬Z a.block
 oP:∀b,Z b->b<aB
 pC:∀l,Shun l->∃a,key l=some a/\Z a.block
structure Inv(Shun:ki->Prop)(aB:Nat)(Z:Nat->Prop)(w₀:aa)(G:dh)(gs:Array ax)(w:aa)(t:dV):Prop where
 base:Base Shun aB Z w₀ G w
 ti:dK Shun t G.H G.own G.rd G.W w.heap.size
 mn:lh t
 sep:Sep G.H G.own G.rd
 loc:∀i,i<gs.size->∃g,gs[i]?=some g/\Loc ty P Fin G t w i g (G.role i)
 above:∀j,gs.size<=j->Deaf t j=0/\G.H j=none
 first:0<gs.size
 group:∀i,i<gs.size->fj ty G gs.size t w i
 bare:∀i,gs.size<=i->G.kids i=[]
 child:∀k,k≠0->G.H k≠ .none->k∈G.kids (G.par k)
def bf.gz:bf->Option Tree| .act n _ _=>some n| .blk n _=>some n| .quit _=>none
def bf.left:bf->Nat| .quit q=>q|_=>0
def bf.xS:bf->Nat| .act _ .reg _=>1|_=>0
end
end Go.bq
namespace Go.bq
open Go Go.Conc
open Go.ConcR(KK WgAt wgBlock stA smA wr mk)
open Go.ConcN(WgLive sumTo upd sumTo_upd upd_ne upd_same sumTo_congr)
def dW(wk:Bool):bf->bf| .blk n c=>if wk then .act n .reg c else .blk n c|r=>r
theorem xU(wk:Bool)(r:bf):(dW wk r).aY=r.aY:=by cases r<;>simp only[dW];split<;>rfl
theorem BE(wk:Bool)(r:bf):(dW wk r).cM=r.cM:=by cases r<;>simp only[dW];split<;>rfl
theorem BF(wk:Bool)(r:bf):(dW wk r).dR=r.dR:=by cases r<;>simp only[dW];split<;>rfl
theorem Gk(wk:Bool)(r:bf)(h:(dW wk r).kC=true):r.kC=true:=by(cases r<;>simp only[dW]at h<;>first|exact h|skip);rfl
theorem Gl(wk:Bool)(r:bf):(dW wk r).gz=r.gz:=by cases r<;>simp only[dW];split<;>rfl
theorem Gm(wk:Bool)(r:bf):(dW wk r).left=r.left:=by cases r<;>simp only[dW];split<;>rfl
def ao.key(c:ao):Option Nat×List cQ×Bool×Nat:=(c.cur,c.kids,c.pend,c.bV)
def bf.n3:bf->Option ao| .act _ _ c=>some c| .blk _ c=>some c| .quit _=>none
section
variable{ty:ar}{P:aC}{Fin:Perm->Perm->ax->aa->Prop}{G G':dh}{t u:dV}{w w':aa}{N N':Nat}
theorem fj.frame{p:Nat}(h:fj ty G N t w p)(hN:N<=N')(jd:(G'.role p).cM.map ao.key=(G.role p).cM.map ao.key)(Oa:(G'.role p).dR=(G.role p).dR)(hblk:(G'.role p).kC=true->(G.role p).kC=true)(hkids:G'.kids p=G.kids p)(hks:∀k∈G.kids p,(G'.role k).aY=(G.role k).aY/\G'.par k=G.par k/\G'.own k=G.own k/\G'.rd k=G.rd k/\G'.H k=G.H k\/(G'.role k).aY=(G.role k).aY/\G'.par k=G.par k/\∃up,(G.role k).aY= .early up)(hW:∀z,(∃c,(G.role p).cM=some c/\c.cur=some z)->G'.W z=G.W z/\∀st sm,bM ty z w st sm->bM ty z w' st sm)(hsame:∀k∈G.kids p,(∃r,G.H k=some (.past r))->∀a,G.own k a\/G.rd k a->dk a w w')(hsize:w.heap.size<=w'.heap.size):fj ty G' N' (t++u) w' p:=by unfold fj at h⊢;rw[Oa];cases hc:(G.role p).cM with|none=>rw[hc]at h jd;(have hc':(G'.role p).cM=none:=by simpa using jd);rw[hc'];simp only at h⊢;rw[hkids];exact h|some c=>rw[hc]at jd;obtain⟨c',hc',hkey⟩:=xg.1 jd;(obtain⟨k1,k2,k3,k4⟩:c'.cur=c.cur/\c'.kids=c.kids/\c'.pend=c.pend/\c'.bV=c.bV:=by simpa[ao.key]using hkey);rw[hc'];cases hs:(G.role p).dR with|none=>rw[hc,hs]at h;simp only at h⊢;rw[hkids];exact h|some s=>rw[hc,hs]at h;simp only at h⊢;rw[k1,k2,k3];cases hz:c.cur with|none=>rw[hz]at h;simp only at h⊢;rw[hkids];exact h|some z=>rw[hz]at h;simp only at h⊢;obtain⟨h1,h2,h3,h4,h5⟩:=h;obtain⟨w1,w2⟩:=hW z ⟨c,hc,hz⟩;have kk:∀k∈G.kids p,(G'.role k).aY=(G.role k).aY:=fun k hk=>(hks k hk).elim (·.1) (·.1);(have cnt:Count G' p=Count G p:=by unfold Count;rw[hkids];exact List.countP_congr fun k hk=>by rw[kk k hk]);(have h3':kD (uA G' N' (t++u) w' z p) (G.kids p) c.kids:=by refine h3.imp fun k v hk x=>?_;obtain⟨x1,x2,x3,x4⟩:=x;(have rel:ln G t w z k v->G'.own k=G.own k->G'.rd k=G.rd k->G'.H k=G.H k->ln G' (t++u) w' z k v:=by rintro⟨⟨r,hr,hsaid⟩,hv⟩e1 e2 e3;refine⟨⟨r,by rw[e3];exact hr,hsaid.app u⟩, ?_⟩;rw[e1,e2];exact v.nd (hsame k hk ⟨r,hr⟩) hsize hv);have e:=kk k hk;rcases hks k hk with⟨_,y2,y3,y4,uB⟩|⟨_,y2,up,y3⟩;{refine⟨x1,b0 x2 hN,y2.trans x3, ?_⟩;rw[e];revert x4;cases(G.role k).aY with|early up=>exact id|rel up=>exact fun q=>⟨q.1,rel q.2 y3 y4 uB⟩|last j up=>exact fun q=>⟨q.1,rel q.2 y3 y4 uB⟩|gone=>exact fun q=>rel q y3 y4 uB};·refine⟨x1,b0 x2 hN,y2.trans x3, ?_⟩;rw[e];rw[y3]at x4⊢;exact x4);refine⟨w1.trans h1,h2,by rw[hkids];exact h3',by rw[hkids];exact h4, ?_⟩;·(have op:jc G p->jc G' p:=fun o k hk=>by rw[hkids]at hk;rw[kk k hk];exact o k hk);(have uC:kE G p->kE G' p:=fun o k hk=>by rw[hkids]at hk;rw[kk k hk];exact o k hk);revert h5;cases s with|work=>simp only[Mode];rw[cnt,k3,k4];exact fun⟨a,b,d⟩=>⟨w2 _ _ a,op b,d⟩|jB vs=>simp only[Mode];rw[cnt,k3];exact fun⟨a,b,d,e⟩=>⟨a,w2 _ _ b,op d,e⟩|reg=>simp only[Mode];rw[cnt,k3];rintro⟨a,⟨b,d,e⟩|⟨L,hL,j,up,b,d,e⟩|⟨b,d,e⟩⟩;{exact⟨a, .inl ⟨w2 _ _ b,op d,e⟩⟩};{exact⟨a, .inr (.inl ⟨L,by rw[hkids];exact hL,j,up,by rw[kk L hL];exact b,fun k hk hne=>by rw[hkids]at hk;rw[kk k hk];exact d k hk hne,w2 _ _ e⟩)⟩};(·refine⟨a, .inr (.inr ⟨uC b,w2 _ _ d, ?_⟩)⟩;cases hb:(G'.role p).kC with|false=>rfl|true=>rw[hblk hb]at e;cases e)|awake=>simp only[Mode];rw[k3];exact fun⟨a,b,d⟩=>⟨a,uC b,w2 _ _ d⟩|rel=>exact id|kz=>exact id|kA=>exact id|kB=>exact id
theorem Ob{w:aa}{a:aq}{v:ae}(b:Nat):(w.setCell a v).shape? b=w.shape? b:=by simp only[cZ,fT,jy];by_cases e:a.block=b;{subst e;rw[if_pos rfl];cases w.heap[a.block]? with|none=>rfl|some o=>cases o<;>simp<;>split<;>simp};·rw[if_neg e]
theorem uD(w:aa)(a:aq)(v:ae):(w.setCell a v).heap.size=w.heap.size:=by simp[fT]
theorem sE(w:aa)(a:aq)(v:ae){b:Nat}(h:b≠a.block):(w.setCell a v).heap[b]?=w.heap[b]?:=by simp only[fT,jy];rw[if_neg (Ne.symm h)]
theorem xV{w w':aa}{a:aq}(h:w'.heap[a.block]?=w.heap[a.block]?):dk a w w':=by refine⟨?_, ?_, ?_,fun _=>h, ?_⟩<;>simp only[World.cell?,World.frozen?,cZ,ia,h]
theorem Oc{c:ao}{z:Nat}{a:aq}{v:ae}(ha:a.block=z)(hl:WgLive ty z (w.setCell a v))(hc:∀x,c.own x\/c.rd x->x.block≠z):aQ ty c w (w.setCell a v):=by subst ha;refine⟨by rw[uD];exact bd _,fun x hx=>xV (sE w a v (hc x hx)),fun b s h=>by rw[Ob];exact h,fun y _ hy=>?_,fun y _ _ hy=>?_,rfl,rfl,rfl⟩;all_goals by_cases e:y=a.block;{rw[e];exact hl};·obtain⟨st,sm,h⟩:=hy;exact⟨st,sm,h.of_block (sE w a v e)⟩
theorem Od{c c':ao}{es:Array b4}{cj:ao}(h:Ord ty c c' w w' es)(hsep:∀a,c.own a->¬cj.own a/\¬cj.rd a)(hb:∀a,cj.own a\/cj.rd a->a.block<w.heap.size)(hz:∀z,(cj.cur=some z\/∃v,cj.up=some (z,v))->z<w.heap.size/\∀o,¬c.own ⟨z,o,none⟩):aQ ty cj w w':=by refine⟨h.size,fun a ha=>h.cell a (hb a ha) fun ho=>ha.elim (hsep a ho).1 (hsep a ho).2,h.shape,fun z e=>?_,fun z v e=>?_,h.os,h.tape,h.output⟩;{rintro⟨st,sm,hl⟩;obtain⟨h1,h2⟩:=hz z (.inl e);exact⟨st,sm,hl.of_block (h.out z h1 h2)⟩};·rintro⟨st,sm,hl⟩;obtain⟨h1,h2⟩:=hz z (.inr ⟨v,e⟩);exact⟨st,sm,hl.of_block (h.out z h1 h2)⟩
end
section
variable{ty:ar}{P:aC}{Fin:Perm->Perm->ax->aa->Prop}{Shun:ki->Prop}{aB:Nat}{Z:Nat->Prop}{w₀:aa}{G G':dh}{gs:Array ax}{t:dV}{w w':aa}
def gB(P:aC)(g g':ax):Bool:=mayWake P g&&g'.status != .blocked&&g'.status != .waiting
theorem Oe{g g' x:ax}{w':aa}(h:gB P g g'=false):jV P g g' w' x=x:=by unfold jV;rw[if_neg (by unfold gB at h;rw[h];simp)]
theorem Of{g g' x:ax}{w':aa}(h:gB P g g'=true):jV P g g' w' x=x.again w':=by unfold jV;rw[if_pos (by unfold gB at h;exact h)]
theorem Gn{g g' x:ax}{w':aa}(h:x.status= .running\/x.status= .finished):jV P g g' w' x=x:=by unfold jV;split;{exact again_running _ h};·rfl
theorem ofEvents_g{i:Nat}{fn:fI}{pos:String}{es:Array b4}:∀op∈fe i fn pos es,op.g=i:=ConcR.g_of_ofEvents
theorem Loc.other{i j:Nat}{g g' x:ax}{fn:fI}{pos:String}{es:Array b4}(hij:i≠j)(h:Loc ty P Fin G t w j x (G.role j))(sF:∀c,(G.role j).n3=some c->aQ ty c w w')(hH:(G'.H j=G.H j/\G'.own j=G.own j/\G'.rd j=G.rd j)\/((∃q,G.role j= .quit q)/\G'.H j= .none)):Loc ty P Fin G' (t++fe i fn pos es) w' j (jV P g g' w' x) (dW (gB P g g') (G.role j)):=by have hd:Deaf (t++fe i fn pos es) j=Deaf t j:=Deaf_other t hij _ ofEvents_g;revert h;cases hr:G.role j with|act n s c=>rintro⟨h1,h2,h3,h4,h5⟩;have hH':=hH.resolve_right (fun⟨⟨q,hq⟩,_⟩=>by rw[hr]at hq;cases hq);rw[Gn (.inl h1.running.1)];refine⟨h1.rely (sF c (by rw[hr];rfl)),h2,hd.trans h3,h4, ?_⟩;rw[hH'.1,hH'.2.1,hH'.2.2];exact h5|blk n c=>rintro⟨h1,h2,h3,h4,h5,h6,h7,h8,h9⟩;have hH':=hH.resolve_right (fun⟨⟨q,hq⟩,_⟩=>by rw[hr]at hq;cases hq);have hs:=h3.rely (sF c (by rw[hr];rfl));(cases hw:gB P g g' with|true=>rw[Of hw];(have e:x.again w'={x with status:= .running}:=by unfold Goroutine.again;rw[h1,h2]);rw[e];refine⟨hs,h4,hd.trans h5,h6, ?_⟩;simp only[ca.early,if_true];rw[hH'.1,hH'.2.1,hH'.2.2];exact⟨h7,h8,h9⟩|false=>rw[Oe hw];refine⟨h1,h2,hs,h4,hd.trans h5,h6, ?_⟩;rw[hH'.1,hH'.2.1,hH'.2.2];exact⟨h7,h8,h9⟩)|quit q=>rintro⟨h1,h2,h3⟩;rw[Gn h1.status];refine⟨by rw[hd];exact h1,fun k=>?_,h3⟩;rcases hH with⟨e,_⟩|⟨_,e⟩;{rw[e];exact h2 k};·rw[e];simp
theorem Inv.next(I:Inv ty P Fin Shun aB Z w₀ G gs w t){i:Nat}{g g':ax}{es:Array b4}{ρ:bf}(hi:gs[i]?=some g)(bP:∀j,G'.role j=if j=i then ρ else dW (gB P g g') (G.role j))(hH:∀j,j≠i->(G'.H j=G.H j/\G'.own j=G.own j/\G'.rd j=G.rd j)\/((∃q,G.role j= .quit q)/\G'.H j= .none))(sF:∀j c,j≠i->j<gs.size->(G.role j).n3=some c->aQ ty c w w')(base:Base Shun aB Z w₀ G' w')(ti:dK Shun (t++fe i g.frame.fn g.frame.place es) G'.H G'.own G'.rd G'.W w'.heap.size)(mn:lh (t++fe i g.frame.fn g.frame.place es))(sep:Sep G'.H G'.own G'.rd)(hloc:Loc ty P Fin G' (t++fe i g.frame.fn g.frame.place es) w' i g' ρ)(BG:∀p,p<gs.size->fj ty G' gs.size (t++fe i g.frame.fn g.frame.place es) w' p)(hkids:∀p,gs.size<=p->G'.kids p=[])(hchild:∀k,k≠0->G'.H k≠ .none->k∈G'.kids (G'.par k)):Inv ty P Fin Shun aB Z w₀ G' ((gs.map (jV P g g' w')).setIfInBounds i g') w' (t++fe i g.frame.fn g.frame.place es):=by have hlt:i<gs.size:=(dz.1 hi).1;(have hsz:((gs.map (jV P g g' w')).setIfInBounds i g').size=gs.size:=by simp);refine⟨base,ti,mn,sep,fun j hj=>?_,fun j hj=>?_,by rw[hsz];exact I.first,fun p hp=>?_,fun p hp=>hkids p (by rw[hsz]at hp;exact hp),hchild⟩;{rw[hsz]at hj;by_cases e:j=i;{subst e;refine⟨g',by rw[Array.getElem?_setIfInBounds_self_of_lt (by simpa using hlt)], ?_⟩;rw[bP j,if_pos rfl];exact hloc};·obtain⟨x,hx,hl⟩:=I.loc j hj;refine⟨jV P g g' w' x,by rw[Array.getElem?_setIfInBounds_ne (Ne.symm e),qx,hx];rfl, ?_⟩;rw[bP j,if_neg e];exact hl.other (Ne.symm e) (fun c hc=>sF j c e hj hc) (hH j e)};{rw[hsz]at hj;obtain⟨h1,h2⟩:=I.above j hj;refine⟨by rw[Deaf_other t (by omega) _ ofEvents_g];exact h1, ?_⟩;rcases hH j (by omega)with⟨e,_⟩|⟨_,e⟩;{rw[e];exact h2};·exact e};·rw[hsz]at hp⊢;exact BG p hp
def Tree.qN(x y:Tree):Prop:=∃bC f i,y= .node bC f/\x=f i
theorem Tree.Og:WellFounded Tree.qN:=by constructor;intro y;induction y with|node bC f ih=>constructor;rintro x ⟨aao,f',i,e,rfl⟩;cases e;exact ih i
theorem Tree.xW{bC:Type}{f:bC->Tree}(i:bC):Tree.qN (f i) (.node bC f):=⟨bC,f,i,rfl,rfl⟩
def mo(m l:List Tree):Prop:=∃x r ys,l.Perm (x::r)/\m.Perm (ys++r)/\∀y∈ys,Tree.qN y x
theorem BH{l l':List Tree}(h:Acc mo l)(p:l.Perm l'):Acc mo l':=⟨_,fun _⟨x,r,ys,h1,h2,h3⟩=>h.inv ⟨x,r,ys,p.trans h1,h2,h3⟩⟩
theorem Gp{x:Tree}{l:List Tree}(h:x∈l):∃l',l.Perm (x::l'):=by obtain⟨s,t,rfl⟩:=List.append_of_mem h;exact⟨s++t,List.perm_middle⟩
theorem Oh:∀{l₁:List Tree},Acc mo l₁->∀{l₂:List Tree},Acc mo l₂->Acc mo (l₁++l₂):=by intro l₁ h₁;induction h₁ with|intro l₁ h₁ Oi=>intro l₂ h₂;induction h₂ with|intro l₂ h₂ Oj=>constructor;rintro m ⟨x,r,ys,p1,p2,p3⟩;have hx:x∈l₁++l₂:=p1.mem_iff.2 (by simp);rcases List.mem_append.1 hx with hx|hx;{obtain⟨a,ha⟩:=Gp hx;(have hr:r.Perm (a++l₂):=by have:(x::r).Perm (x::(a++l₂)):=p1.symm.trans (ha.append_right l₂);exact List.Perm.cons_inv this);refine BH (Oi (ys++a) ⟨x,a,ys,ha, .refl _,p3⟩ ⟨_,h₂⟩) ?_;rw[ik];exact(hr.symm.append_left ys).trans p2.symm};·obtain⟨a,ha⟩:=Gp hx;(have hr:r.Perm (l₁++a):=by have:(x::r).Perm (x::(l₁++a)):=p1.symm.trans ((ha.append_left l₁).trans List.perm_middle);exact List.Perm.cons_inv this);refine BH (Oj (ys++a) ⟨x,a,ys,ha, .refl _,p3⟩) ?_;(have:(l₁++(ys++a)).Perm (ys++(l₁++a)):=by rw[<-ik,<-ik];exact List.perm_append_comm.append_right a);exact this.trans ((hr.symm.append_left ys).trans p2.symm)
theorem Ol:Acc mo []:=⟨_,fun _⟨x,r,ys,h1,_⟩=>by have:=h1.length_eq;simp at this⟩
theorem Gq(ys:List Tree)(h:∀y∈ys,Acc mo [y]):Acc mo ys:=by induction ys with|nil=>exact Ol|cons y ys ih=>have:=Oh (h y (by simp)) (ih fun z hz=>h z (by simp[hz]));simpa using this
theorem Om(x:Tree):Acc mo [x]:=by induction x using Tree.Og.induction with|_ x ih=>constructor;rintro m ⟨y,r,ys,h1,h2,h3⟩;(have hr:r=[]:=by have:=h1.length_eq;cases r with|nil=>rfl|cons=>simp at this);subst hr;(have hy:y=x:=by have:y∈[x]:=h1.mem_iff.2 (by simp);simpa using this);subst hy;refine BH (Gq ys fun z hz=>ih z (h3 z hz)) ?_;simpa using h2.symm
theorem On:WellFounded mo:=⟨fun l=>Gq l fun y _=>Om y⟩
def kF(G:dh):Nat->List Tree|0=>[]|N+1=>(G.role N).gz.toList++kF G N
def uE(G:dh)(N:Nat):Nat:=sumTo N fun j=>(G.role j).left
def Gr(G:dh)(N:Nat):Nat:=sumTo N fun j=>(G.role j).xS
abbrev Lt3:List Tree×Nat×Nat->List Tree×Nat×Nat->Prop:=Prod.Lex mo (Prod.Lex (·<·) (·<·))
def fL(G:dh)(N:Nat):List Tree×Nat×Nat:=(kF G N,uE G N,Gr G N)
theorem lt3_wf:WellFounded Lt3:=(Prod.lex ⟨mo,On⟩ (Prod.lex Nat.lt_wfRel Nat.lt_wfRel)).wf
theorem Gs{N:Nat}(h:∀j,j<N->(G'.role j).gz=(G.role j).gz):kF G' N=kF G N:=by induction N with|zero=>rfl|succ N ih=>rw[kF,kF,h N (by omega),ih fun j hj=>h j (by omega)]
theorem Gt{i N:Nat}(hi:i<N)(h:∀j,j≠i->j<N->(G'.role j).gz=(G.role j).gz):∃r,(kF G N).Perm ((G.role i).gz.toList++r)/\(kF G' N).Perm ((G'.role i).gz.toList++r):=by induction N with|zero=>omega|succ N ih=>by_cases e:N=i;{subst e;exact⟨kF G N, .refl _,by rw[kF,Gs fun j hj=>h j (by omega) (by omega)]⟩};·obtain⟨r,h1,h2⟩:=ih (by omega) fun j hj hjN=>h j hj (by omega);refine⟨(G.role N).gz.toList++r, ?_, ?_⟩;{rw[kF];refine(h1.append_left _).trans ?_;rw[<-ik,<-ik];exact List.perm_append_comm.append_right r};·rw[kF,h N e (by omega)];refine(h2.append_left _).trans ?_;rw[<-ik,<-ik];exact List.perm_append_comm.append_right r
theorem BI{f:bf->Nat}{i N:Nat}{ρ:bf}{wk:Bool}(hf:∀r,f (dW wk r)=f r)(bP:∀j,G'.role j=if j=i then ρ else dW wk (G.role j))(hi:i<N):sumTo N (fun j=>f (G'.role j))+f (G.role i)=sumTo N (fun j=>f (G.role j))+f ρ:=by have e:=sumTo_upd (fun j=>f (G.role j)) (f ρ) id hi;simp only[id]at e;rw[<-e];congr 1;refine sumTo_congr fun a _=>?_;rw[bP a];by_cases h:a=i;{subst h;simp[upd]};·simp[upd,h,hf]
theorem Gu{i N:Nat}{ρ:bf}{wk:Bool}(bP:∀j,G'.role j=if j=i then ρ else dW wk (G.role j))(h:ρ.gz=(G.role i).gz):kF G' N=kF G N:=Gs fun j _=>by rw[bP j];split;{rename_i e;rw[e];exact h};·exact Gl _ _
theorem uF{i N:Nat}{ρ:bf}{wk:Bool}{uG:Tree}(bP:∀j,G'.role j=if j=i then ρ else dW wk (G.role j))(hi:i<N)(h0:(G.role i).gz=some uG)(h:∀y,ρ.gz=some y->Tree.qN y uG):Lt3 (fL G' N) (fL G N):=by refine Prod.Lex.left _ _ ?_;(obtain⟨r,h1,h2⟩:=Gt (G:=G) (G':=G') hi fun j hj _=>by rw[bP j,if_neg hj,Gl]);rw[h0]at h1;rw[bP i,if_pos rfl]at h2;refine⟨uG,r,ρ.gz.toList,h1,h2,fun y hy=>h y ?_⟩;cases hρ:ρ.gz with|none=>rw[hρ]at hy;simp at hy|some z=>rw[hρ]at hy;simp at hy;rw[hy]
theorem Oo{i N:Nat}{ρ:bf}{wk:Bool}(bP:∀j,G'.role j=if j=i then ρ else dW wk (G.role j))(hi:i<N)(h:ρ.gz=(G.role i).gz)(h':ρ.left<(G.role i).left):Lt3 (fL G' N) (fL G N):=by have e2:=BI (G:=G) (G':=G') (f:=bf.left) (Gm wk) bP hi;unfold fL;rw[Gu bP h];refine MK _ (Prod.Lex.left _ _ ?_);simp only[uE];omega
theorem Oq(r:bf):dW false r=r:=by cases r<;>rfl
theorem Ot{i N:Nat}{ρ:bf}(bP:∀j,G'.role j=if j=i then ρ else dW false (G.role j))(hi:i<N)(h:ρ.gz=(G.role i).gz)(h':ρ.left=(G.role i).left)(h'':ρ.xS<(G.role i).xS):Lt3 (fL G' N) (fL G N):=by have e2:=BI (G:=G) (G':=G') (f:=bf.left) (Gm false) bP hi;have e3:=BI (G:=G) (G':=G') (f:=bf.xS) (fun r=>by rw[Oq]) bP hi;(have x2:uE G' N=uE G N:=by simp only[uE];omega);unfold fL;rw[Gu bP h,x2];refine MK _ (MK _ ?_);simp only[Gr];omega
end
section
variable{Shun:ki->Prop}{t u:dV}{H:Nat->Option n1}{own rd:Nat->Perm}{W:Nat->Option Nat}{B B':Nat}
theorem dK.Ou(T:dK Shun t H own rd W B)(hu:∀op∈u,op.act.low B/\(∀x,op.act.touch?=some x->∃a,key x.loc=some a/\x.kind= .atomic/\(W a.block).isSome=true)/\∀a,op.act≠ .mark (.release a))(hfree:∀j a,(H j).isSome=true->own j a\/rd j a->W a.block=none):dK Shun (t++u) H own rd W B:=by
 have cases':∀j x,gG (t++u) j=some x->(j<t.size/\gG t j=some x)\/(∃a,key x.loc=some a/\x.kind= .atomic/\(W a.block).isSome=true):=by intro j x hx;obtain⟨op,ho,hop⟩:=nP hx;rcases pj ho with⟨hlt,_⟩|⟨_,hou⟩;{exact .inl ⟨hlt,by rwa[xf hlt]at hx⟩};·exact .inr ((hu op hou).2.1 x hop)
 have calm:∀said j x b,gG (t++u) j=some x->(∃a,key b.loc=some a/\b.kind= .atomic/\(W a.block).isSome=true)->¬x.conflicts said b/\¬b.conflicts said x:=by rintro said j x b hx ⟨a,hl,hk,hW⟩;(have hkey:x.loc=b.loc->x.kind= .atomic\/x.kind= .said:=by intro e;rcases cases' j x hx with⟨_,h⟩|⟨_,_,h,_⟩;{obtain⟨p,hp⟩:=AQ.1 hW;exact(T.wg j x a h (by rw[e];exact hl) p hp).imp id (·.1)};·exact .inl h);refine⟨fun c=>?_,fun c=>?_⟩;{rcases hkey c.1 with h|h<;>rcases c.2.2.2 with y|y|⟨_,y,z⟩<;>simp_all};·rcases hkey c.1.symm with h|h<;>rcases c.2.2.2 with y|y|⟨_,y,z⟩<;>simp_all
 refine⟨?_,fun i h a hi hx j x hj hl=>?_,fun i h a hi hx j x hj hl hw=>?_,fun j x a hj hl p hp=>?_,fun j x hj hm=>?_,seen_app T.seen fun op hop=>(hu op hop).1,fun op hop a ha=>?_⟩;{rintro said ⟨i,j,hij,⟨a,b,ha,hb,hc⟩,df,gy⟩;rcases cases' i a ha with⟨hi,ha'⟩|h;{rcases cases' j b hb with⟨hj,hb'⟩|h;{exact T.clean said ⟨i,j,hij,⟨a,b,ha',hb',hc⟩,fun e=>df (hb_app u e),fun e=>gy (hb_app u e)⟩};·exact(calm said i a b ha h).1 hc};·exact(calm said j b a hb h).2 hc};{rcases cases' j x hj with⟨_,h'⟩|⟨b,hb,_,hW⟩;{exact(T.own i h a hi hx j x h' hl).app u};·rw[hl]at hb;cases hb;rw[hfree i a (by rw[hi];rfl) (.inl hx)]at hW;cases hW};{rcases cases' j x hj with⟨_,h'⟩|⟨b,hb,_,hW⟩;{exact(T.rd i h a hi hx j x h' hl hw).app u};·rw[hl]at hb;cases hb;rw[hfree i a (by rw[hi];rfl) (.inr hx)]at hW;cases hW};{rcases cases' j x hj with⟨hlt,h'⟩|⟨b,hb,hk,_⟩;{rw[g?_old hlt];exact T.wg j x a h' hl p hp};·exact .inl hk};{rcases cases' j x hj with⟨_,h'⟩|⟨b,hb,hk,hW⟩;{rcases T.all j x h' hm with⟨k,h,hk,hh⟩|h;{exact .inl ⟨k,h,hk,hh.app u⟩};·exact .inr h};·exact .inr ⟨hk, .inr ⟨b,hb,hW⟩⟩};·rcases sd.1 hop with h|h;{exact T.norel op h a ha};·exact(hu op h).2.2 a
end
section
variable{ty:ar}{P:aC}{Fin:Perm->Perm->ax->aa->Prop}{Shun:ki->Prop}{aB:Nat}{Z:Nat->Prop}{w₀:aa}{G G':dh}{gs:Array ax}{t u:dV}{w w':aa}
theorem Gv{e:b4}(h:e.mute=true):fw e= .mark .disable\/fw e= .mark .enable:=by obtain⟨loc,wr,sy⟩:=e;cases loc<;>simp_all[Event.mute];rename_i m;cases m<;>simp_all[fw]
theorem Inv.free(I:Inv ty P Fin Shun aB Z w₀ G gs w t):∀j a,(G.H j).isSome=true->G.own j a\/G.rd j a->G.W a.block=none:=fun j a hj h=>(I.base.low j a hj h).2.1
theorem uH(I:Inv ty P Fin Shun aB Z w₀ G gs w t){i:Nat}{ρ:bf}{wk:Bool}(bP:∀j,G'.role j=if j=i then ρ else dW wk (G.role j)){p:Nat}(hp:p<gs.size)(hks:i∈G.kids p->ρ.aY=(G.role i).aY)(Gw:G'.par=G.par)(hkids:G'.kids p=G.kids p)(hown:∀k∈G.kids p,(G'.own k=G.own k/\G'.rd k=G.rd k/\G'.H k=G.H k)\/(k=i/\∃up,(G.role i).aY= .early up))(hW:∀z,G.W z=some p->G'.W z=some p)(hwg:∀z st sm,G.W z=some p->bM ty z w st sm->bM ty z w' st sm)(hsame:∀k,(∃r,G.H k=some (.past r))->∀a,G.own k a\/G.rd k a->dk a w w')(hsize:w.heap.size<=w'.heap.size)(hpi:p=i->ρ.cM.map ao.key=(G.role i).cM.map ao.key/\ρ.dR=(G.role i).dR/\(ρ.kC=true->(G.role i).kC=true)):fj ty G' gs.size (t++u) w' p:=by have hg:=I.group p hp;refine fj.frame hg (bd _) ?_ ?_ ?_ hkids (fun k hk=>?_) (fun z hz=>?_) (fun k _ hr=>hsame k hr) hsize;{rw[bP p];split;{rename_i e;rw[e];exact(hpi e).1};·rw[BE]};{rw[bP p];split;{rename_i e;rw[e];exact(hpi e).2.1};·rw[BF]};{rw[bP p];split;{rename_i e;rw[e];exact(hpi e).2.2};·exact Gk _ _};{(have e1:(G'.role k).aY=(G.role k).aY:=by rw[bP k];split;{rename_i e;rw[e];exact hks (e▸hk)};·rw[xU]);rcases hown k hk with⟨e2,e3,e4⟩|⟨rfl,up,e2⟩;{exact .inl ⟨e1,by rw[Gw],e2,e3,e4⟩};·exact .inr ⟨e1,by rw[Gw],up,e2⟩};·obtain⟨c,hc,hcz⟩:=hz;(have uI:G.W z=some p:=by unfold fj at hg;rw[hc]at hg;cases hs:(G.role p).dR with|none=>exfalso;revert hc hs;(cases G.role p with|act n s c=>simp only[bf.cM,bf.dR];split<;>simp|blk n c=>simp[bf.dR]|quit q=>simp[bf.cM])|some s=>rw[hs]at hg;simp only[hcz]at hg;exact hg.1);exact⟨(hW z uI).trans uI.symm,fun st sm h=>hwg z st sm uI h⟩
theorem Ov(I:Inv ty P Fin Shun aB Z w₀ G gs w t){i q:Nat}{g:ax}{sl:Option (Nat×Nat)}(hi:gs[i]?=some g)(hrun:g.status= .running)(hr:G.role i= .quit q):∃G' gs' w' ops,runT P (crowd gs w sl) i=(.next (crowd gs' w' sl),ops)/\Lt3 (fL G' gs'.size) (fL G gs.size)/\Inv ty P Fin Shun aB Z w₀ G' gs' w' (t++ops):=by have hlt:i<gs.size:=(dz.1 hi).1;obtain⟨x,hx,hl⟩:=I.loc i hlt;rw[hi]at hx;cases hx;rw[hr]at hl;obtain⟨hq,hnl,hi0⟩:=hl;cases q with|zero=>rw[hq.1]at hrun;cases hrun|succ k=>rcases hq with⟨hf,_⟩|⟨_,g',es,hm,hst,hq'⟩;{rw[hf]at hrun;cases hrun};(have Ow:(i==0)=false:=by simpa using hi0);(have hgo:aJ P (i==0) g w= .go g' w es:=by rw[Ow];exact hst w);have hrun':=runT_crowd_go (P:=P) (sl:=sl) (i:=i) hi hgo;let G':dh:={G with role:=fun j=>if j=i then .quit k else dW (gB P g g') (G.role j)};have bP:∀j,G'.role j=if j=i then .quit k else dW (gB P g g') (G.role j):=fun _=>rfl;refine⟨G',_,w,_,hrun', ?_, ?_⟩;{rw[show((gs.map (jV P g g' w)).setIfInBounds i g').size=gs.size by simp];exact Oo bP hlt (by rw[hr];rfl) (by rw[hr];exact Nat.lt_succ_self k)};·(have dL:∀op∈fe i g.frame.fn g.frame.place es,op.act.touch?=none/\op.act.low w.heap.size/\∀a,op.act≠ .mark (.release a):=by intro op hop;obtain⟨e,he,rfl⟩:=Conc.mem_ofEvents hop;refine⟨touch_mute (hm e he),low_mute (hm e he) _,fun a ea=>?_⟩;rcases Gv (hm e he)with h|h<;>simp only[h]at ea<;>cases ea);refine I.next hi bP (fun j _=> .inl ⟨rfl,rfl,rfl⟩) (fun j c _ _ _=>aQ.refl ty c w) ⟨I.base.size,I.base.os,I.base.tape,I.base.output,I.base.jC,I.base.low,I.base.oP,I.base.pC⟩ (I.ti.quiet dL) (I.mn.quiet fun op hop=>(dL op hop).1) I.sep ?_ (fun p hp=>?_) I.bare I.child;{exact⟨by rw[Deaf_own];exact hq',hnl,hi0⟩};·refine uH (G':=G') I bP hp (fun _=>by rw[hr];rfl) rfl rfl (fun k _=> .inl ⟨rfl,rfl,rfl⟩) (fun _ h=>h) (fun _ _ _ _ h=>h) (fun k _ a _=>dk.refl a w) (bd _) (fun e=>?_);rw[hr];exact⟨rfl,rfl,fun h=>by cases h⟩
