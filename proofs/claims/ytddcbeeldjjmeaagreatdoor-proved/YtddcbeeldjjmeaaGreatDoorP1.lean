/- WHAT IS HELD OF A TRACE. -/
import Derived.Conc.Beside
import Derived.Conc.CrowdRun
set_option linter.unusedVariables false
open Array renaming getElem?_eq_some_iff->dJ,getElem?_map->qd,getElem?_modify->jl,mem_append->s5
open Go renaming Addr->al,Event->b1,FuncId->fM,Goroutine->ay,HappensBefore->N4,Loc->kK,Program->aB,Trace->dY,TypeId->aq,Value->ab,World->aa,deafBehind->eG,stepG->aJ
open Go.Conc renaming Knows->nI,getElem?_append_cases->qc,touchAt->hJ,touchAt_old->ym,touch_of->oz,woken->kq
open Go.ConcR renaming WgAt->bN,rd->gj
open Go.MemAct renaming ofEvent->fN,touch?->oy
open Go.MemOp renaming ofEvents->fy
open Go.Trace renaming g?->rF
open Go.World renaming setCell->fi,shape?->dz
open List renaming append_assoc->dS,mem_cons->cJ,mem_toArray->pe,not_mem_nil->ko
open Nat renaming le_refl->aI,lt_of_lt_of_le->cw,lt_or_ge->iT
open Option renaming isSome_iff_exists->Bw,map_eq_some_iff->yn,map_some->iy
open Option.some renaming injEq->c9
open Prod.Lex renaming right->N6
namespace Go.bF
open Go Go.Conc
inductive oI where
 |live(g:Nat)
 |past(r:Nat)
def oI.has(t:dY):oI->Nat->Prop| .live g,j=>nI t g j| .past r,j=>Before t j r
theorem oI.has.app{t:dY}(u:dY):∀{h:oI}{j:Nat},h.has t j->h.has (t++u) j| .live _,_,k=>Knows.app u k| .past _,_,k=>Before.app u k
def key:kK->Option al| .cell a=>some a| .obj r=>some ⟨r,0,none⟩|_=>none
theorem GW{l:kK}{a:al}(h:key l=some a):l.isMemory=true:=by cases l<;>simp_all[key,Go.Loc.isMemory]
def B9(W:Nat->Option Nat)(l:Loc):Prop:=∃a,key l=some a/\(W a.block).isSome=true
structure dM(Shun:Loc->Prop)(t:dY)(H:Nat->Option oI)(own rd:Nat->al->Prop)(W:Nat->Option Nat)(B:Nat):Prop where
 clean:∀said,¬Race said t
 own:∀i h a,H i=some h->own i a->∀j x,hJ t j=some x->key x.loc=some a->h.has t j
 rd:∀i h a,H i=some h->rd i a->∀j x,hJ t j=some x->key x.loc=some a->x.write=true->h.has t j
 wg:∀j x a,hJ t j=some x->key x.loc=some a->∀p,W a.block=some p->x.kind= .atomic\/(x.kind= .said/\t.g? j=some p)
 all:∀j x,hJ t j=some x->x.loc.isMemory=true->(∃i h,H i=some h/\h.has t j)\/(x.kind= .atomic/\(Shun x.loc\/B9 W x.loc))
 seen:∀op∈t,op.act.low B
 norel:∀op∈t,∀a,(W a.block).isSome=true->op.act≠ .mark (.release a)
def Ca(own rd:Nat->al->Prop)(W:Nat->Option Nat)(B:Nat)(i:Nat)(x:Touch):Prop:=∃a,key x.loc=some a/\((W a.block=none/\(own i a\/(rd i a/\x.write=false)\/B<=a.block))\/(x.kind= .atomic/\(W a.block).isSome=true)\/(x.kind= .said/\W a.block=some i))
theorem GX{act:MemAct}{B:Nat}{x:Touch}{a:al}(h:act.low B)(hx:act.touch?=some x)(hl:key x.loc=some a):a.block<B:=by cases act with|access e=>simp only[oy,c9]at hx;subst hx;obtain⟨l,wr,sy⟩:=e;cases l<;>simp only[key,c9,reduceCtorEq]at hl<;>(subst hl;exact h)|mark m=>cases m<;>simp only[oy,c9,reduceCtorEq]at hx<;>(subst hx;simp only[key,c9]at hl;subst hl;exact h)|_=>simp[oy]at hx
section
variable{Shun:Loc->Prop}{t u:dY}{H:Nat->Option oI}{own rd own' rd':Nat->al->Prop}{W:Nat->Option Nat}{B B':Nat}
theorem dM.low(T:dM Shun t H own rd W B){j:Nat}{x:Touch}{a:al}(h:hJ t j=some x)(hl:key x.loc=some a):a.block<B:=by obtain⟨op,ho,hx⟩:=oz h;exact GX (T.seen op (mem_of_getElem? ho)) hx hl
def Sep(H:Nat->Option oI)(own rd:Nat->al->Prop):Prop:=∀i j a,i≠j->(H i).isSome=true->(H j).isSome=true->own i a->¬own j a/\¬rd j a
theorem dM.step(T:dM Shun t H own rd W B)(hS:Sep H own rd){i:Nat}(hi:H i=some (.live i))(hB:B<=B')(hu:∀op∈u,op.g=i/\op.act.low B'/\(∀x,op.act.touch?=some x->Ca own rd W B i x)/\∀a,(W a.block).isSome=true->op.act≠ .mark (.release a))(hown:∀a,own' i a->own i a\/(B<=a.block))(hrd:∀a,rd' i a->rd i a\/own i a\/B<=a.block)(hother:∀j,j≠i->own' j=own j/\rd' j=rd j)(hlow:∀j a,j≠i->(H j).isSome=true->own j a\/rd j a->a.block<B)(hfree:∀j a,(H j).isSome=true->own j a\/rd j a->W a.block=none):dM Shun (t++u) H own' rd' W B':=by
 have kn:∀j x,hJ (t++u) j=some x->t.size<=j->nI (t++u) i j:=by intro j x hx hj;obtain⟨op,ho,_⟩:=oz hx;have:=knows_own ho;rcases qc ho with⟨hlt,_⟩|⟨_,hou⟩;{omega};·rwa[(hu op hou).1]at this
 have old:∀j x,hJ (t++u) j=some x->j<t.size->hJ t j=some x:=fun j x hx hj=>by rwa[ym hj]at hx
 have new:∀j x,hJ (t++u) j=some x->t.size<=j->Ca own rd W B i x:=by intro j x hx hj;obtain⟨op,ho,hop⟩:=oz hx;rcases qc ho with⟨hlt,_⟩|⟨_,hou⟩;{omega};·exact(hu op hou).2.2.1 x hop
 refine⟨?_, ?_, ?_, ?_, ?_, ?_, ?_⟩;{intro said;refine noRace_append (T.clean said) (fun op hop=>(hu op hop).1) fun j a ha op hop b hb hc=>?_;obtain⟨ad,hl,hcase⟩:=(hu op hop).2.2.1 b hb;(have hla:key a.loc=some ad:=by rw[hc.1];exact hl);rcases hcase with⟨_,ho|⟨hr,hw⟩|hB'⟩|⟨hk,hW⟩|⟨hk,hW⟩;{exact T.own i _ ad hi ho j a ha hla};{(have haw:a.write=true:=by rcases hc.2.2.1 with h|h;{exact h};·rw[hw]at h;cases h);exact T.rd i _ ad hi hr j a ha hla haw};{have:=T.low ha hla;omega};{obtain⟨p,hp⟩:=Bw.1 hW;rcases T.wg j a ad ha hla p hp with h|⟨h,_⟩;{rcases hc.2.2.2 with x|x|⟨_,x,_⟩;{rw[h]at x;cases x};{rw[hk]at x;cases x};·rw[h]at x;cases x};·rcases hc.2.2.2 with x|x|⟨_,_,x⟩;{rw[h]at x;cases x};{rw[hk]at x;cases x};·rw[hk]at x;cases x};·rcases T.wg j a ad ha hla i hW with h|⟨h,hg⟩;{rcases hc.2.2.2 with x|x|⟨_,x,_⟩;{rw[h]at x;cases x};{rw[hk]at x;cases x};·rw[h]at x;cases x};·obtain⟨y,hy,hyg⟩:=yn.1 hg;have:=knows_own hy;rwa[hyg]at this};{intro k h a hk hok j x hx hl;rcases iT j t.size with hj|hj;{have hx':=old j x hx hj;by_cases hki:k=i;{subst hki;rw[hi]at hk;cases hk;rcases hown a hok with h|h;{exact(T.own k _ a hi h j x hx' hl).app u};·have:=T.low hx' hl;omega};·rw[(hother k hki).1]at hok;exact(T.own k h a hk hok j x hx' hl).app u};·by_cases hki:k=i;{subst hki;rw[hi]at hk;cases hk;exact kn j x hx hj};·rw[(hother k hki).1]at hok;obtain⟨ad,hl',hcase⟩:=new j x hx hj;(have e:ad=a:=by rw[hl]at hl';cases hl';rfl);subst e;(have hks:(H k).isSome=true:=by rw[hk];rfl);(have his:(H i).isSome=true:=by rw[hi];rfl);have hfr:=hfree k ad hks (.inl hok);rcases hcase with⟨_,ho|⟨hr,_⟩|hB'⟩|⟨_,hW⟩|⟨_,hW⟩;{exact absurd ho (hS k i ad hki hks his hok).1};{exact absurd hr (hS k i ad hki hks his hok).2};{have:=hlow k ad hki hks (.inl hok);omega};{rw[hfr]at hW;cases hW};·rw[hfr]at hW;cases hW};{intro k h a hk hrk j x hx hl hw;rcases iT j t.size with hj|hj;{have hx':=old j x hx hj;by_cases hki:k=i;{subst hki;rw[hi]at hk;cases hk;rcases hrd a hrk with h|h|h;{exact(T.rd k _ a hi h j x hx' hl hw).app u};{exact(T.own k _ a hi h j x hx' hl).app u};·have:=T.low hx' hl;omega};·rw[(hother k hki).2]at hrk;exact(T.rd k h a hk hrk j x hx' hl hw).app u};·by_cases hki:k=i;{subst hki;rw[hi]at hk;cases hk;exact kn j x hx hj};·rw[(hother k hki).2]at hrk;obtain⟨ad,hl',hcase⟩:=new j x hx hj;(have e:ad=a:=by rw[hl]at hl';cases hl';rfl);subst e;(have hks:(H k).isSome=true:=by rw[hk];rfl);(have his:(H i).isSome=true:=by rw[hi];rfl);have hfr:=hfree k ad hks (.inr hrk);rcases hcase with⟨_,ho|⟨_,hr⟩|hB'⟩|⟨_,hW⟩|⟨_,hW⟩;{exact absurd hrk (hS i k ad (Ne.symm hki) his hks ho).2};{rw[hr]at hw;cases hw};{have:=hlow k ad hki hks (.inr hrk);omega};{rw[hfr]at hW;cases hW};·rw[hfr]at hW;cases hW};{intro j x a hx hl p hp;rcases iT j t.size with hj|hj;{rw[g?_old hj];exact T.wg j x a (old j x hx hj) hl p hp};·obtain⟨ad,hl',hcase⟩:=new j x hx hj;(have e:ad=a:=by rw[hl]at hl';cases hl';rfl);subst e;rcases hcase with⟨hn,_⟩|⟨hk,_⟩|⟨hk,hW⟩;{rw[hn]at hp;cases hp};{exact .inl hk};·rw[hp]at hW;cases hW;refine .inr ⟨hk, ?_⟩;obtain⟨op,ho,_⟩:=oz hx;rcases qc ho with⟨hlt,_⟩|⟨_,hou⟩;{omega};·simp only[rF,ho,iy];rw[(hu op hou).1]};{intro j x hx hm;rcases iT j t.size with hj|hj;{rcases T.all j x (old j x hx hj) hm with⟨k,h,hk,hh⟩|h;{exact .inl ⟨k,h,hk,hh.app u⟩};·exact .inr h};·exact .inl ⟨i,_,hi,kn j x hx hj⟩};{exact seen_app (fun op hop=>MemAct.low_mono hB (T.seen op hop)) fun op hop=>(hu op hop).2.1};·intro op hop a ha;rcases s5.1 hop with h|h;{exact T.norel op h a ha};·exact(hu op h).2.2.2 a ha
theorem dM.less(T:dM Shun t H own rd W B)(ho:∀i a,own' i a->own i a)(hr:∀i a,rd' i a->rd i a\/own i a):dM Shun t H own' rd' W B:=⟨T.clean,fun i h a hi hx=>T.own i h a hi (ho i a hx),fun i h a hi hx j x hj hl hw=>(hr i a hx).elim (fun y=>T.rd i h a hi y j x hj hl hw) (fun y=>T.own i h a hi y j x hj hl),T.wg,T.all,T.seen,T.norel⟩
end
section
variable{Shun:Loc->Prop}{t u:dY}{H H':Nat->Option oI}{own rd own' rd':Nat->al->Prop}{W W':Nat->Option Nat}{B B':Nat}
theorem Pn{t:dY}{p k:Nat}{x y:MemOp}(hx:x.g=p/\x.act= .go k)(hy:y.g=k/\y.act= .start)(h0:Deaf t p=0)(hk:Deaf t k=0){i:Nat}(h:nI t p i):nI (t++#[x,y]) k i:=by
 have hs:(t++#[x,y]).size=t.size+2:=by simp
 have gx:(t++#[x,y])[t.size]?=some x:=by simp
 have mu:(t++#[x,y])[t.size+1]?=some y:=by rw[Array.getElem?_append_right (by omega)];simp
 have dx:(t++#[x,y]).deaf p t.size=0:=by rw[deaf_old (aI _)];exact h0
 have dy:(t++#[x,y]).deaf k (t.size+1)=0:=by rw[deaf_succ gx,deaf_old (aI _)];show deafStep k (Deaf t k) x=0;rw[hk];unfold deafStep;rw[hx.2]
 have cy:N4 (t++#[x,y]) t.size (t.size+1):= .single (.inr ⟨.spawn (child:=k) (by rw[act?_of gx,hx.2]) (by rw[act?_of mu,hy.2]) (by simp only[rF,mu,iy,hy.1]),⟨p,by simp only[rF,gx,iy,hx.1],dx⟩,⟨k,by simp only[rF,mu,iy,hy.1],dy⟩⟩);have n0:N4 (t++#[x,y]) i t.size:=h.hb_new (aI _) gx hx.1;exact⟨t.size+1,y,mu,hy.1, .inr (n0.trans cy)⟩
theorem dM.quiet(T:dM Shun t H own rd W B)(hu:∀op∈u,op.act.touch?=none/\op.act.low B/\∀a,op.act≠ .mark (.release a)):dM Shun (t++u) H own rd W B:=by(have old:∀j x,hJ (t++u) j=some x->j<t.size/\hJ t j=some x:=by intro j x hx;obtain⟨op,ho,hop⟩:=oz hx;rcases qc ho with⟨hlt,_⟩|⟨_,hou⟩;{exact⟨hlt,by rwa[ym hlt]at hx⟩};·rw[(hu op hou).1]at hop;cases hop);refine⟨fun said=>?_,fun i h a hi hx j x hj hl=>(T.own i h a hi hx j x (old j x hj).2 hl).app u,fun i h a hi hx j x hj hl hw=>(T.rd i h a hi hx j x (old j x hj).2 hl hw).app u,fun j x a hj hl p hp=>?_,fun j x hj hm=>?_,seen_app T.seen fun op hop=>(hu op hop).2.1,fun op hop a ha=>?_⟩;{rintro⟨i,j,hij,⟨a,b,ha,hb,hc⟩,cy,n2⟩;obtain⟨hi,ha'⟩:=old i a ha;obtain⟨hj,hb'⟩:=old j b hb;exact T.clean said ⟨i,j,hij,⟨a,b,ha',hb',hc⟩,fun e=>cy (hb_app u e),fun e=>n2 (hb_app u e)⟩};{rw[g?_old (old j x hj).1];exact T.wg j x a (old j x hj).2 hl p hp};{rcases T.all j x (old j x hj).2 hm with⟨k,h,hk,hh⟩|h;{exact .inl ⟨k,h,hk,hh.app u⟩};·exact .inr h};·rcases s5.1 hop with h|h;{exact T.norel op h a ha};·exact(hu op h).2.2 a
theorem dM.spawn(T:dM Shun t H own rd W B){p c:Nat}{x y:MemOp}(hp:H p=some (.live p))(hc:H c=none)(hx:x.g=p/\x.act= .go c)(hy:y.g=c/\y.act= .start)(hdp:Deaf t p=0)(hdc:Deaf t c=0)(hH:∀i,i≠c->H' i=H i)(hHc:H' c=some (.live c))(ho:∀i a,own' i a->(i=c/\own p a)\/(i≠c/\own i a))(hr:∀i a,rd' i a->(i=c/\(own p a\/rd p a))\/(i≠c/\(own i a\/rd i a))):dM Shun (t++#[x,y]) H' own' rd' W B:=by have Q:=T.quiet (u:=#[x,y]) (fun op hop=>by simp only[pe,cJ,ko,or_false]at hop;rcases hop with rfl|rfl;{rw[hx.2];exact⟨rfl,trivial,fun a e=>by cases e⟩};·rw[hy.2];exact⟨rfl,trivial,fun a e=>by cases e⟩);have key:∀j a b,hJ t j=some b->key b.loc=some a->nI t p j->nI (t++#[x,y]) c j:=fun j a b _ _ k=>Pn hx hy hdp hdc k;(have lt:∀j b,hJ (t++#[x,y]) j=some b->hJ t j=some b:=by intro j b hb;obtain⟨op,ho',hop⟩:=oz hb;rcases qc ho' with⟨hlt,_⟩|⟨_,hou⟩;{rwa[ym hlt]at hb};·simp only[pe,cJ,ko,or_false]at hou;rcases hou with rfl|rfl;{rw[hx.2]at hop;cases hop};·rw[hy.2]at hop;cases hop);refine⟨Q.clean,fun i h a hi hxo j b hj hl=>?_,fun i h a hi hxo j b hj hl hw=>?_,Q.wg,fun j b hj hm=>?_,Q.seen,Q.norel⟩;{rcases ho i a hxo with⟨rfl,hop⟩|⟨hic,hoi⟩;{rw[hHc]at hi;cases hi;exact key j a b (lt j b hj) hl (T.own p _ a hp hop j b (lt j b hj) hl)};·rw[hH i hic]at hi;exact Q.own i h a hi hoi j b hj hl};{rcases hr i a hxo with⟨rfl,hop⟩|⟨hic,hoi⟩;{rw[hHc]at hi;cases hi;exact key j a b (lt j b hj) hl (hop.elim (fun o=>T.own p _ a hp o j b (lt j b hj) hl) (fun o=>T.rd p _ a hp o j b (lt j b hj) hl hw))};·rw[hH i hic]at hi;exact hoi.elim (fun o=>Q.own i h a hi o j b hj hl) (fun o=>Q.rd i h a hi o j b hj hl hw)};·rcases Q.all j b hj hm with⟨i,h,hi,hh⟩|h;{(have hic:i≠c:=by rintro rfl;rw[hc]at hi;cases hi);exact .inl ⟨i,h,by rw[hH i hic];exact hi,hh⟩};·exact .inr h
theorem dM.release(T:dM Shun t H own rd W B){i:Nat}{y:MemOp}{z:al}(hi:H i=some (.live i))(hy:y.g=i/\y.act= .mark (.releaseMerge z))(hz:z.block<B)(hH:∀j,j≠i->H' j=H j)(hHi:H' i=some (.past t.size)):dM Shun (t++#[y]) H' own rd W B:=by
 have Q:=T.quiet (u:=#[y]) (fun op hop=>by simp only[pe,cJ,ko,or_false]at hop;subst hop;rw[hy.2];exact⟨rfl,hz,fun a e=>by cases e⟩);have mu:(t++#[y])[t.size]?=some y:=by simp
 have key:∀j,j<t.size->nI (t++#[y]) i j->Before (t++#[y]) j t.size:=by rintro j hj ⟨q,z,hq,hzg,hb⟩;rcases iT q t.size with hlt|hge;{exact .inr (hb.hb (hb_po hlt hq mu (hzg.trans hy.1.symm)))};·(have Po:q=t.size:=by have:=lt_size_of_getElem? hq;simp at this;omega);rw[Po]at hb;exact hb
 have Cb:∀j b,hJ (t++#[y]) j=some b->j<t.size:=by intro j b hb;obtain⟨op,ho',hop⟩:=oz hb;rcases qc ho' with⟨hlt,_⟩|⟨_,hou⟩;{exact hlt};·simp only[pe,cJ,ko,or_false]at hou;subst hou;rw[hy.2]at hop;cases hop
 refine⟨Q.clean,fun k h a hk hx j x hj hl=>?_,fun k h a hk hx j x hj hl hw=>?_,Q.wg,fun j x hj hm=>?_,Q.seen,Q.norel⟩;{by_cases e:k=i;{subst e;rw[hHi]at hk;cases hk;exact key j (Cb j x hj) (Q.own k _ a hi hx j x hj hl)};·rw[hH k e]at hk;exact Q.own k h a hk hx j x hj hl};{by_cases e:k=i;{subst e;rw[hHi]at hk;cases hk;exact key j (Cb j x hj) (Q.rd k _ a hi hx j x hj hl hw)};·rw[hH k e]at hk;exact Q.rd k h a hk hx j x hj hl hw};·rcases Q.all j x hj hm with⟨k,h,hk,hh⟩|h;{by_cases e:k=i;{subst e;rw[hi]at hk;cases hk;exact .inl ⟨k,_,hHi,key j (Cb j x hj) hh⟩};·exact .inl ⟨k,h,by rw[hH k e];exact hk,hh⟩};·exact .inr h
def oJ(t:dY)(z:al)(r:Nat):Prop:=t.act? r=some (.mark (.releaseMerge z))/\t.heard r
theorem oJ.app{t:dY}{z:al}{r:Nat}(h:oJ t z r)(u:dY):oJ (t++u) z r:=by have hr:=lt_of_act? h.1;exact⟨by rw[act?_old hr];exact h.1,(heard_old hr).2 h.2⟩
theorem oJ.new{t:dY}{z:al}{y:MemOp}{i:Nat}(hy:y.g=i/\y.act= .mark (.releaseMerge z))(hd:Deaf t i=0):oJ (t++#[y]) z t.size:=by(have mu:(t++#[y])[t.size]?=some y:=by simp);exact⟨by rw[act?_of mu,hy.2],i,by simp only[rF,mu,iy,hy.1],by rw[deaf_old (aI _)];exact hd⟩
theorem Pp{t:dY}{z:al}{r p:Nat}{y:MemOp}(h:oJ t z r)(hy:y.g=p/\y.act= .mark (.acquire z))(hd:Deaf t p=0)(hn:∀op∈t,op.act≠ .mark (.release z)){j:Nat}(hb:Before t j r):nI (t++#[y]) p j:=by(have mu:(t++#[y])[t.size]?=some y:=by simp);have hr:=lt_of_act? h.1;have cy:N4 (t++#[y]) r t.size:= .single (.inr ⟨.marked (a:=z) hr (.inr (h.app #[y]).1) (by rw[act?_of mu,hy.2]) (fun k h1 h2=>by rw[act?_old h2];intro e;obtain⟨op,ho,hoa⟩:=yn.1 e;exact hn op (mem_of_getElem? ho) hoa),(h.app #[y]).2,⟨p,by simp only[rF,mu,iy,hy.1],by rw[deaf_old (aI _)];exact hd⟩⟩);exact⟨t.size,y,mu,hy.1, .inr ((hb.app #[y]).hb cy)⟩
theorem dM.acquire(T:dM Shun t H own rd W B){p:Nat}{y:MemOp}{z:al}(K:Nat->Prop)(hp:H p=some (.live p))(Pq:¬K p)(hy:y.g=p/\y.act= .mark (.acquire z))(hd:Deaf t p=0)(hz:z.block<B)(hW:(W z.block).isSome=true)(hK:∀k,K k->∃r,H k=some (.past r)/\oJ t z r)(hH:∀k,¬K k->H' k=H k)(GY:∀k,K k->H' k=none)(ho:∀i a,own' i a->own i a\/(i=p/\∃k,K k/\own k a))(hr:∀i a,rd' i a->rd i a\/own i a\/(i=p/\∃k,K k/\(own k a\/rd k a))):dM Shun (t++#[y]) H' own' rd' W B:=by
 have Q:=T.quiet (u:=#[y]) (fun op hop=>by simp only[pe,cJ,ko,or_false]at hop;subst hop;rw[hy.2];exact⟨rfl,hz,fun a e=>by cases e⟩);have lt:∀j b,hJ (t++#[y]) j=some b->hJ t j=some b:=by intro j b hb;obtain⟨op,ho',hop⟩:=oz hb;rcases qc ho' with⟨hlt,_⟩|⟨_,hou⟩;{rwa[ym hlt]at hb};·simp only[pe,cJ,ko,or_false]at hou;subst hou;rw[hy.2]at hop;cases hop
 have key:∀k r j,H k=some (.past r)->K k->Before t j r->nI (t++#[y]) p j:=by intro k r j hk Pr hb;obtain⟨r',hr',hs⟩:=hK k Pr;rw[hk]at hr';cases hr';exact Pp hs hy hd (fun op hop=>T.norel op hop z hW) hb
 have hp':H' p=some (.live p):=by rw[hH p Pq];exact hp
 refine⟨Q.clean,fun i h a hi hx j x hj hl=>?_,fun i h a hi hx j x hj hl hw=>?_,Q.wg,fun j x hj hm=>?_,Q.seen,Q.norel⟩;{(have hiK:¬K i:=fun e=>by rw[GY i e]at hi;cases hi);rw[hH i hiK]at hi;rcases ho i a hx with h1|⟨rfl,k,hk,hok⟩;{exact Q.own i h a hi h1 j x hj hl};·rw[hp]at hi;cases hi;obtain⟨r,hr',_⟩:=hK k hk;exact key k r j hr' hk (T.own k _ a hr' hok j x (lt j x hj) hl)};{(have hiK:¬K i:=fun e=>by rw[GY i e]at hi;cases hi);rw[hH i hiK]at hi;rcases hr i a hx with h1|h1|⟨rfl,k,hk,hok⟩;{exact Q.rd i h a hi h1 j x hj hl hw};{exact Q.own i h a hi h1 j x hj hl};·rw[hp]at hi;cases hi;obtain⟨r,hr',_⟩:=hK k hk;exact key k r j hr' hk (hok.elim (fun o=>T.own k _ a hr' o j x (lt j x hj) hl) (fun o=>T.rd k _ a hr' o j x (lt j x hj) hl hw))};·rcases T.all j x (lt j x hj) hm with⟨k,h,hk,hh⟩|h;{by_cases e:K k;{obtain⟨r,hr',_⟩:=hK k e;rw[hk]at hr';cases hr';exact .inl ⟨p,_,hp',key k r j hk e hh⟩};·exact .inl ⟨k,h,by rw[hH k e];exact hk,hh.app #[y]⟩};·exact .inr h
theorem dM.group(T:dM Shun t H own rd W B){z:Nat}(hno:∀j x a,hJ t j=some x->key x.loc=some a->a.block≠z)(hrel:∀op∈t,∀a,a.block=z->op.act≠ .mark (.release a))(hW:∀b,b≠z->W' b=W b):dM Shun t H own rd W' B:=by refine⟨T.clean,T.own,T.rd,fun j x a hj hl q hq=>?_,fun j x hj hm=>?_,T.seen,fun op hop a ha=>?_⟩;{rw[hW _ (hno j x a hj hl)]at hq;exact T.wg j x a hj hl q hq};{rcases T.all j x hj hm with h|⟨h1,h2⟩;{exact .inl h};·refine .inr ⟨h1,h2.imp id ?_⟩;rintro⟨a,hl,ha⟩;exact⟨a,hl,by rw[hW _ (hno j x a hj hl)];exact ha⟩};·by_cases e:a.block=z;{exact hrel op hop a e};·rw[hW _ e]at ha;exact T.norel op hop a ha
theorem dM.first(P0:Past Shun B t)(o r:al->Prop)(ho:∀a l,o a\/r a->key l=some a->¬Shun l):dM Shun t (fun i=>if i=0 then some (.live 0)else none) (fun i a=>i=0/\o a) (fun i a=>i=0/\r a) (fun _=>none) B:=by(have kn:∀j x a,hJ t j=some x->key x.loc=some a->(o a\/r a)->nI t 0 j:=fun j x a hj hl h=>by rcases P0.known j x hj (GW hl)with k|⟨k,_⟩;{exact k};·exact absurd k (ho a _ h hl));refine⟨P0.clean,fun i h a hi hx j x hj hl=>?_,fun i h a hi hx j x hj hl hw=>?_,fun j x a hj hl p hp=>(by cases hp),fun j x hj hm=>?_,P0.seen,fun op hop a ha=>(by cases ha)⟩;{obtain⟨rfl,hs⟩:=hx;simp only[if_true,c9]at hi;subst hi;exact kn j x a hj hl (.inl hs)};{obtain⟨rfl,hs⟩:=hx;simp only[if_true,c9]at hi;subst hi;exact kn j x a hj hl (.inr hs)};·rcases P0.known j x hj hm with k|⟨k,ka⟩;{exact .inl ⟨0, .live 0,by simp,k⟩};·exact .inr ⟨ka, .inl k⟩
theorem dM.Ps(T:dM Shun t H own rd W B)(h0:H 0=some (.live 0))(hH:∀i,i≠0->H i=none)(Pt:∀a l,own' 0 a->key l=some a->W a.block=none/\¬Shun l):dM Shun t H own' rd W B:=by refine⟨T.clean,fun i h a hi hx j x hj hl=>?_,T.rd,T.wg,T.all,T.seen,T.norel⟩;by_cases e:i=0;{subst e;rw[h0]at hi;cases hi;obtain⟨hW,hS⟩:=Pt a x.loc hx hl;rcases T.all j x hj (GW hl)with⟨k,h,hk,hh⟩|⟨_,h|⟨b,hb,hbW⟩⟩;{by_cases e2:k=0;{subst e2;rw[h0]at hk;cases hk;exact hh};·rw[hH k e2]at hk;cases hk};{exact absurd h hS};·rw[hl]at hb;cases hb;rw[hW]at hbW;cases hbW};·rw[hH i e]at hi;cases hi
def lK(t:dY):Prop:=∀j g,t.g? j=some g->g≠0->∀x,hJ t j=some x->x.loc.isMemory=true->x.kind= .atomic->¬t.heard j\/nI t 0 j
theorem lK.app{t u:dY}(h:lK t)(hu:∀j g x,t.size<=j->(t++u).g? j=some g->g≠0->hJ (t++u) j=some x->x.kind= .atomic->¬(t++u).heard j):lK (t++u):=by intro j g hg hne x hx hm hk;rcases iT j t.size with hj|hj;{rw[g?_old hj]at hg;rw[ym hj]at hx;exact(h j g hg hne x hx hm hk).imp (fun n e=>n ((heard_old hj).1 e)) (·.app u)};·exact .inl (hu j g x hj hg hne hx hk)
theorem lK.mine{t:dY}(h:lK t){i:Nat}(fn:fM)(pos:String){es:Array b1}(hes:i=0\/∀j e x,es[j]?=some e->(fN e).touch?=some x->x.kind= .atomic->0<eG (Deaf t i) (es.extract 0 j)):lK (t++fy i fn pos es):=by
 refine h.app fun j g x hj hg hne hx hk hh=>?_;obtain⟨op,ho,hop⟩:=oz hx;have hg':op.g=g:=by simpa[rF,ho]using hg
 have hje:(fy i fn pos es)[j-t.size]?=some op:=by rw[Array.getElem?_append]at ho;simpa[Nat.not_lt.2 hj]using ho
 rw[ofEvents_eq,qd]at hje;obtain⟨e,he,rfl⟩:=yn.1 hje;simp only at hg' hop;rcases hes with h0|hes;{exact hne (hg'.symm.trans h0)};·have hd:=hes _ e x he hop hk;(have hjs:j-t.size<=es.size:=by rcases iT (j-t.size) es.size with h'|h';{omega};·rw[Array.getElem?_eq_none h']at he;cases he);obtain⟨g2,hg2,hd2⟩:=hh;rw[hg]at hg2;cases hg2;subst hg';have:=deaf_inside t i fn pos es (j-t.size) hjs;rw[show t.size+(j-t.size)=j by omega,hd2]at this;omega
theorem lK.quiet{t u:dY}(h:lK t)(hu:∀op∈u,op.act.touch?=none):lK (t++u):=by refine h.app fun j g x hj hg hne hx hk hh=>?_;obtain⟨op,ho,hop⟩:=oz hx;rcases qc ho with⟨hlt,_⟩|⟨_,hou⟩;{omega};·rw[hu op hou]at hop;cases hop
theorem lK.first{Shun:Loc->Prop}{B:Nat}{t:dY}(P0:Past Shun B t):lK t:=by intro j g hg hne x hx hm _;by_cases hh:t.heard j;{refine .inr ?_;obtain⟨q,hq,hb⟩:=P0.over j g hg hne ⟨x,hx,hm, .inr hh⟩;obtain⟨y,hy,hyg⟩:=yn.1 hq;exact⟨q,y,hy,hyg, .inr hb⟩};·exact .inl hh
theorem dM.last(T:dM Shun t H own rd W B)(h0:H 0=some (.live 0))(hH:∀i,i≠0->H i=none)(hd:Deaf t 0=0)(hq:lK t):Past (fun l=>Shun l\/B9 W l) B t:=by
 have kn:∀j x,hJ t j=some x->x.loc.isMemory=true->nI t 0 j\/(x.kind= .atomic/\(Shun x.loc\/B9 W x.loc)):=by intro j x hj hm;rcases T.all j x hj hm with⟨i,h,hi,hh⟩|h;{by_cases e:i=0;{subst e;rw[h0]at hi;cases hi;exact .inl hh};·rw[hH i e]at hi;cases hi};·exact .inr h
 refine⟨T.clean,fun j x hj hm=>(kn j x hj hm).imp id fun h=>⟨h.2,h.1⟩,fun j g hg hne hc=>?_,hd,T.seen⟩;obtain⟨x,hx,hm,hk⟩:=hc;have:nI t 0 j:=by rcases kn j x hx hm with h|⟨h,_⟩;{exact h};·rcases hk with hk|hk;{exact absurd h hk};·exact(hq j g hg hne x hx hm h).resolve_left (fun n=>n hk)
 obtain⟨q,y,hy,hyg,hb⟩:=this;rcases hb with rfl|hb;{(have:t.g? j=some 0:=by simp[rF,hy,hyg]);rw[this]at hg;cases hg;exact absurd rfl hne};·exact⟨q,by simp[rF,hy,hyg],hb⟩
end
end Go.bF
namespace Go.bF
open Go Go.Conc
open Go.ConcR(KK WgAt wgBlock stA smA wr mk)
open Go.ConcN(WgLive)
def kR(w:aa)(b:Nat):Nat×Nat:=match w.heap[b]? with|some (.cells _ _ f)=>f|_=>(0,0)
structure dB(a:al)(w w':aa):Prop where
 cell:w'.cell? a=w.cell? a
 frozen:w'.frozen? a=w.frozen? a
 shape:w'.shape? a.block=w.shape? a.block
 obj:w.shape? a.block=none->w'.heap[a.block]?=w.heap[a.block]?
 pair:kR w' a.block=kR w a.block
theorem dB.refl(a:al)(w:aa):dB a w w:=⟨rfl,rfl,rfl,fun _=>rfl,rfl⟩
theorem dB.trans{a:al}{w w' w'':aa}(h:dB a w w')(h':dB a w' w''):dB a w w'':=⟨h'.cell.trans h.cell,h'.frozen.trans h.frozen,h'.shape.trans h.shape,fun e=>(h'.obj (h.shape.trans e)).trans (h.obj e),h'.pair.trans h.pair⟩
abbrev Perm:=al->Prop
structure dN where
 ok:Perm->Perm->aa->Prop
 jq:∀{own rd:Perm}{w w':aa},(∀a,own a\/rd a->dB a w w')->w.heap.size<=w'.heap.size->ok own rd w->ok own rd w'
inductive cl where
 |work|jS(vs:Nat)|reg|awake|rel|kS|kT|kU
def cl.early:cl->Bool| .work| .jS _| .reg| .awake=>true|_=>false
structure ar where
 main:Bool
 own:Perm
 rd:Perm
 deaf:Nat
 cur:Option Nat
 pend:Bool
 b7:Nat
 kids:List dN
 up:Option (Nat×dN)
section
variable(ty:aq)
structure aS(c:ar)(w w₁:aa):Prop where
 size:w.heap.size<=w₁.heap.size
 same:∀a,c.own a\/c.rd a->dB a w w₁
 shape:∀b s,w.shape? b=some s->w₁.shape? b=some s
 cur:∀z,c.cur=some z->WgLive ty z w->WgLive ty z w₁
 up:∀z v,c.up=some (z,v)->WgLive ty z w->WgLive ty z w₁
 os:w₁.os=w.os
 tape:w₁.tape=w.tape
 output:w₁.output=w.output
theorem aS.refl(c:ar)(w:aa):aS ty c w w:=⟨aI _,fun a _=> .refl a w,fun _ _ h=>h,fun _ _ h=>h,fun _ _ _ h=>h,rfl,rfl,rfl⟩
theorem aS.trans{c:ar}{w w₁ w₂:aa}(h:aS ty c w w₁)(h':aS ty c w₁ w₂):aS ty c w w₂:=⟨Nat.le_trans h.size h'.size,fun a ha=>(h.same a ha).trans (h'.same a ha),fun b s x=>h'.shape b s (h.shape b s x),fun z e x=>h'.cur z e (h.cur z e x),fun z v e x=>h'.up z v e (h.up z v e x),h'.os.trans h.os,h'.tape.trans h.tape,h'.output.trans h.output⟩
theorem aS.at(c:ar)(w:aa)(d:Nat):aS ty c w (w.at d):=⟨aI _,fun _ _=>⟨rfl,rfl,rfl,fun _=>rfl,rfl⟩,fun _ _ h=>h,fun _ _ h=>h,fun _ _ _ h=>h,rfl,rfl,rfl⟩
def Cc(c c':ar)(w w':aa)(e:b1):Prop:=(∀x,(fN e).touch?=some x->∃a,key x.loc=some a/\a.block<w'.heap.size/\((x.kind= .plain/\(c.own a\/(c.rd a/\x.write=false)\/(w.heap.size<=a.block/\c'.cur≠some a.block)))\/(x.kind= .atomic/\(c.cur=some a.block\/∃v,c.up=some (a.block,v)))\/(x.kind= .said/\c.cur=some a.block)))/\(fN e).low w'.heap.size/\(∀a,e.loc≠ .mark (.release a))
structure Ord(c c':ar)(w w':aa)(es:Array b1):Prop where
 size:w.heap.size<=w'.heap.size
 out:∀b,b<w.heap.size->(∀o,¬c.own ⟨b,o,none⟩)->w'.heap[b]?=w.heap[b]?
 cell:∀a,a.block<w.heap.size->¬c.own a->dB a w w'
 shape:∀b s,w.shape? b=some s->w'.shape? b=some s
 os:w'.os=w.os
 tape:w'.tape=w.tape
 output:w'.output=w.output
 evs:∀e∈es,Cc c c' w w' e
 mW:∀j e x,es[j]?=some e->(fN e).touch?=some x->x.kind= .atomic->0<eG c.deaf (es.extract 0 j)
 main:c'.main=c.main
 deaf:c'.deaf=eG c.deaf es
 own:∀a,c'.own a->(c.own a\/w.heap.size<=a.block\/(c.main=true/\c.cur=none/\c.rd a))/\a.block<w'.heap.size
 rd:∀a,c'.rd a->(c.rd a\/c.own a\/w.heap.size<=a.block)/\a.block<w'.heap.size
 pend:c'.pend=c.pend
 b7:c'.b7=c.b7
 kids:c'.kids=c.kids
 up:c'.up=c.up
 cur:c'.cur=c.cur\/(c.cur=none/\∃z,c'.cur=some z/\w.heap.size<=z/\z<w'.heap.size/\bN ty z w' 0 0/\c.pend=false/\c.kids=[]/\∀a,c'.own a\/c'.rd a->a.block≠z)
inductive Tree:Type 1 where
 |node(bx:Type)(f:bx->Tree)
variable(P:aB)(Fin:Perm->Perm->ay->aa->Prop)
def lL(l:List (Perm×Perm))(pick:Perm×Perm->Perm):Perm:=fun a=>∃x∈l,pick x a
def Script:Tree->cl->ar->ay->aa->Prop| .node _ f,s,c,g,w=>g.status= .running/\g.offers=none/\∀w₁,aS ty c w w₁->(s.early=true/\∃i,∃g' w' es c',aJ P c.main g w₁= .go g' w' es/\Ord ty c c' w₁ w' es/\Script (f i) s c' g' w')\/(s.early=false/\(∃z v,c.up=some (z,v))/\∃i,∃g' es,aJ P c.main g w₁= .go g' w₁ es/\(∀e∈es,e.mute=true)/\Script (f i) s {c with deaf:=eG c.deaf es} g' w₁)\/(s= .work/\c.pend=false/\0<c.deaf/\∃z,c.cur=some z/\∀v:Nat,v<2147483647->bN ty z w₁ (v*KK) 0->∃i,∃g',aJ P c.main g w₁= .go g' (w₁.setCell (stA z) (.int .u64 ((v+1:Nat)*KK))) #[gj (stA z),wr (stA z)]/\Script (f i) .work {c with pend:=true} g' (w₁.setCell (stA z) (.int .u64 ((v+1:Nat)*KK))))\/(s= .work/\c.pend=true/\c.deaf=0/\c.kids.length<1000/\∃z,c.cur=some z/\∃i₁ i₂,∃(g' child:ay)(o r o' r':Perm)(v:dN),aJ P c.main g w₁= .spawn g' child w₁ #[]/\child.status= .running/\(∀a,o a->c.own a)/\(∀a,o' a->c.own a/\¬o a/\¬r a)/\(∀a,r a->(c.own a\/c.rd a)/\¬o' a)/\(∀a,r' a->(c.own a\/c.rd a)/\¬o a)/\Script (f i₁) .work {main:=false,own:=o,rd:=r,deaf:=0,cur:=none,pend:=false,b7:=0,kids:=[],up:=some (z,v)} child w₁/\Script (f i₂) .work {c with own:=o',rd:=r',pend:=false,b7:=c.b7+1,kids:=v::c.kids} g' w₁)\/(s= .work/\c.pend=false/\0<c.deaf/\∃z,c.cur=some z/\∀v:Nat,v<=c.b7->bN ty z w₁ (v*KK) 0->∃i,∃g',aJ P c.main g w₁= .go g' w₁ #[gj (stA z)]/\Script (f i) (if v=0 then .awake else .jS v) {c with b7:=v} g' w₁)\/(∃vs,s= .jS vs/\0<c.deaf/\∃z,c.cur=some z/\∀v:Nat,v<=vs->bN ty z w₁ (v*KK) 0->(v=vs->∃i,∃g',aJ P c.main g w₁= .go g' (w₁.setCell (stA z) (.int .u64 (v*KK+1))) #[gj (stA z),wr (stA z)]/\Script (f i) .reg c g' (w₁.setCell (stA z) (.int .u64 (v*KK+1))))/\(v≠vs->∃i,∃g',aJ P c.main g w₁= .go g' w₁ #[gj (stA z)]/\Script (f i) .work {c with b7:=vs-1} g' w₁))\/(s= .reg/\∃z,c.cur=some z/\((∃st,bN ty z w₁ st 0)->aJ P c.main g w₁= .go {g with status:= .blocked} w₁ #[])/\(bN ty z w₁ 0 1->∃i,∃g',aJ P c.main g w₁= .go g' (w₁.setCell (smA z) (.int .u32 0)) (semEvents (smA z))/\Script (f i) .awake c g' (w₁.setCell (smA z) (.int .u32 0))))\/(s= .awake/\0<c.deaf/\∃z,c.cur=some z/\(bN ty z w₁ 0 0->∃i,∃g',aJ P c.main g w₁= .go g' w₁ #[gj (stA z)]/\Script (f i) .awake c g' w₁))\/(s= .awake/\c.deaf=0/\∃z,c.cur=some z/\∃g',aJ P c.main g w₁= .go g' w₁ #[mk (.acquire (stA z))]/\∀l:List (Perm×Perm),l.length=c.kids.length->(∀x∈l.zip c.kids,x.2.ok x.1.1 x.1.2 w₁)->∃i,Script (f i) .work {c with own:=fun a=>c.own a\/lL l (·.1) a,rd:=fun a=>c.rd a\/lL l (·.2) a,cur:=none,b7:=0,kids:=[]} g' w₁)\/(s= .work/\c.cur=none/\c.deaf=0/\∃z v,c.up=some (z,v)/\v.ok c.own c.rd w₁/\∃i,∃g',aJ P c.main g w₁= .go g' w₁ #[mk (.releaseMerge (stA z))]/\Script (f i) .rel {c with own:=fun _=>False,rd:=fun _=>False} g' w₁)\/(s= .rel/\0<c.deaf/\∃z v,c.up=some (z,v)/\∀v wt:Nat,wt<=1->v<2147483647->bN ty z w₁ ((v+1:Nat)*KK+wt) 0->∃g',aJ P c.main g w₁= .go g' (w₁.setCell (stA z) (.int .u64 (v*KK+wt))) #[gj (stA z),wr (stA z)]/\((v=0/\wt=1)->∃i,Script (f i) .kS c g' (w₁.setCell (stA z) (.int .u64 (v*KK+wt))))/\(¬(v=0/\wt=1)->∃q,QuitsD P q c.deaf g'))\/(s= .kS/\0<c.deaf/\∃z v,c.up=some (z,v)/\(bN ty z w₁ 1 0->∃i,∃g',aJ P c.main g w₁= .go g' w₁ #[gj (stA z)]/\Script (f i) .kT c g' w₁))\/(s= .kT/\0<c.deaf/\∃z v,c.up=some (z,v)/\(bN ty z w₁ 1 0->∃i,∃g',aJ P c.main g w₁= .go g' (w₁.setCell (stA z) (.int .u64 0)) #[wr (stA z)]/\Script (f i) .kU c g' (w₁.setCell (stA z) (.int .u64 0))))\/(s= .kU/\mayWake P g=true/\∃z v,c.up=some (z,v)/\(bN ty z w₁ 0 0->∃g',aJ P c.main g w₁= .go g' (w₁.setCell (smA z) (.int .u32 1)) (semEvents (smA z))/\g'.status= .running/\∃q,QuitsD P q c.deaf g'))\/(s= .work/\c.main=true/\c.cur=none/\c.deaf=0/\Fin c.own c.rd g w₁)
variable{ty P Fin}
theorem Script.rely{n:Tree}{s:cl}{c:ar}{g:ay}{w w₁:aa}(h:Script ty P Fin n s c g w)(hr:aS ty c w w₁):Script ty P Fin n s c g w₁:=by cases n with|node bx f=>exact⟨h.1,h.2.1,fun w₂ h₂=>h.2.2 w₂ (hr.trans ty h₂)⟩
theorem Script.running{n:Tree}{s:cl}{c:ar}{g:ay}{w:aa}(h:Script ty P Fin n s c g w):g.status= .running/\g.offers=none:=by cases n with|node bx f=>exact⟨h.1,h.2.1⟩
end
inductive bc where
 |act(n:Tree)(s:cl)(c:ar)
 |blk(n:Tree)(c:ar)
 |quit(q:Nat)
inductive tv where
 |early(up:Option (Nat×dN))
 |rel(up:Option (Nat×dN))
 |last(j:Nat)(up:Option (Nat×dN))
 |gone
def bc.aT:bc->tv| .act _ .rel c=> .rel c.up| .act _ .kS c=> .last 4 c.up| .act _ .kT c=> .last 3 c.up| .act _ .kU c=> .last 2 c.up| .act _ _ c=> .early c.up| .blk _ c=> .early c.up| .quit _=> .gone
def tv.counted:tv->Bool| .early _| .rel _=>true|_=>false
def bc.cU:bc->Option ar| .act _ s c=>if s.early then some c else none| .blk _ c=>some c| .quit _=>none
def bc.dT:bc->Option cl| .act _ s _=>if s.early then some s else none| .blk _ _=>some .reg| .quit _=>none
def bc.kV:bc->Bool| .blk _ _=>true|_=>false
structure di where
 role:Nat->bc
 H:Nat->Option oI
 own:Nat->Perm
 rd:Nat->Perm
 W:Nat->Option Nat
 par:Nat->Nat
 kids:Nat->List Nat
inductive kW{α β:Type}(R:α->β->Prop):List α->List β->Prop
 |nil:kW R [] []
 |cons{a:α}{b:β}{l:List α}{m:List β}:R a b->kW R l m->kW R (a::l) (b::m)
theorem kW.imp{α β:Type}{R S:α->β->Prop}{l:List α}{m:List β}(h:kW R l m)(hs:∀a b,a∈l->R a b->S a b):kW S l m:=by induction h with|nil=>exact .nil|cons h _ ih=>exact .cons (hs _ _ (by simp) h) (ih fun a b ha=>hs a b (by simp[ha]))
theorem kW.get{α β:Type}{R:α->β->Prop}{l:List α}{m:List β}(h:kW R l m){a:α}(ha:a∈l):∃b∈m,R a b:=by induction h with|nil=>cases ha|cons h _ ih=>rcases cJ.1 ha with rfl|ha;{exact⟨_,by simp,h⟩};·obtain⟨b,hb,hr⟩:=ih ha;exact⟨b,by simp[hb],hr⟩
theorem kW.length{α β:Type}{R:α->β->Prop}{l:List α}{m:List β}(h:kW R l m):l.length=m.length:=by induction h with|nil=>rfl|cons _ _ ih=>simp[ih]
section
variable(ty:aq)(P:aB)(Fin:Perm->Perm->ay->aa->Prop)
def lM(G:di)(t:dY)(w:aa)(z k:Nat)(v:dN):Prop:=(∃r,G.H k=some (.past r)/\oJ t (stA z) r)/\v.ok (G.own k) (G.rd k) w
def vI(G:di)(N:Nat)(t:dY)(w:aa)(z i k:Nat)(v:dN):Prop:=i<k/\k<N/\G.par k=i/\match(G.role k).aT with| .early up=>up=some (z,v)| .rel up=>up=some (z,v)/\lM G t w z k v| .last _ up=>up=some (z,v)/\lM G t w z k v| .gone=>lM G t w z k v
def Count(G:di)(i:Nat):Nat:=(G.kids i).countP fun k=>(G.role k).aT.counted
def jE(G:di)(i:Nat):Prop:=∀k∈G.kids i,(G.role k).aT.counted=true\/(G.role k).aT= .gone
def kX(G:di)(i:Nat):Prop:=∀k∈G.kids i,(G.role k).aT= .gone
def Mode(G:di)(w:aa)(i z:Nat)(c:ar):cl->Prop| .work=>bN ty z w (((Count G i+(if c.pend then 1 else 0):Nat):Int)*KK) 0/\jE G i/\Count G i<=c.b7| .jS vs=>c.pend=false/\bN ty z w ((Count G i:Int)*KK) 0/\jE G i/\Count G i<=vs/\1<=vs| .reg=>c.pend=false/\((bN ty z w ((Count G i:Int)*KK+1) 0/\jE G i/\1<=Count G i)\/(∃L∈G.kids i,∃j up,(G.role L).aT= .last j up/\(∀k∈G.kids i,k≠L->(G.role k).aT= .gone)/\bN ty z w (if j=2 then 0 else 1) 0)\/(kX G i/\bN ty z w 0 1/\(G.role i).kV=false))| .awake=>c.pend=false/\kX G i/\bN ty z w 0 0|_=>False
def GroupOk(G:di)(N:Nat)(t:dY)(w:aa)(i:Nat):Prop:=match(G.role i).cU,(G.role i).dT with
 |some c,some s=>match c.cur with|some z=>G.W z=some i/\c.kids.length<1001/\kW (vI G N t w z i) (G.kids i) c.kids/\(G.kids i).Nodup/\Mode ty G w i z c s|none=>G.kids i=[]/\c.kids=[]/\c.pend=false/\s= .work
 |_,_=>G.kids i=[]
def Loc(G:di)(t:dY)(w:aa)(i:Nat)(g:ay):bc->Prop| .act n s c=>Script ty P Fin n s c g w/\c.main=(i==0)/\Deaf t i=c.deaf/\(c.up=none↔i=0)/\(if s.early then G.H i=some (.live i)/\G.own i=c.own/\G.rd i=c.rd else(∃r,G.H i=some (.past r))/\c.cur=none/\∀a,¬c.own a/\¬c.rd a)| .blk n c=>g.status= .blocked/\g.offers=none/\Script ty P Fin n .reg c {g with status:= .running} w/\c.main=(i==0)/\Deaf t i=c.deaf/\(c.up=none↔i=0)/\G.H i=some (.live i)/\G.own i=c.own/\G.rd i=c.rd| .quit q=>QuitsD P q (Deaf t i) g/\(∀j,G.H i≠some (.live j))/\i≠0
structure Base(Shun:kK->Prop)(aC:Nat)(Z:Nat->Prop)(w₀:aa)(G:di)(w:aa):Prop where
 size:aC<=w.heap.size
 os:w.os=w₀.os
 tape:w.tape=w₀.tape
 output:w.output=w₀.output
 jT:∀b p,G.W b=some p->aC<=b/\b<w.heap.size
 low:∀i a,(G.H i).isSome=true->G.own i a\/G.rd i a->a.block<w.heap.size/\G.W a.block=none/\¬Z a.block
 py:∀b,Z b->b<aC
 qv:∀l,Shun l->∃a,key l=some a/\Z a.block
structure Inv(Shun:kK->Prop)(aC:Nat)(Z:Nat->Prop)(w₀:aa)(G:di)(gs:Array ay)(w:aa)(t:dY):Prop where
 base:Base Shun aC Z w₀ G w
 ti:dM Shun t G.H G.own G.rd G.W w.heap.size
 mW:lK t
 sep:Sep G.H G.own G.rd
 loc:∀i,i<gs.size->∃g,gs[i]?=some g/\Loc ty P Fin G t w i g (G.role i)
 above:∀j,gs.size<=j->Deaf t j=0/\G.H j=none
 first:0<gs.size
 group:∀i,i<gs.size->GroupOk ty G gs.size t w i
 bare:∀i,gs.size<=i->G.kids i=[]
 child:∀k,k≠0->G.H k≠ .none->k∈G.kids (G.par k)
def bc.gN:bc->Option Tree| .act n _ _=>some n| .blk n _=>some n| .quit _=>none
def bc.left:bc->Nat| .quit q=>q|_=>0
def bc.yV:bc->Nat| .act _ .reg _=>1|_=>0
end
end Go.bF
namespace Go.bF
open Go Go.Conc
open Go.ConcR(KK WgAt wgBlock stA smA wr mk)
open Go.ConcN(WgLive sumTo upd sumTo_upd upd_ne upd_same sumTo_congr)
def dZ(wk:Bool):bc->bc| .blk n c=>if wk then .act n .reg c else .blk n c|r=>r
theorem yW(wk:Bool)(r:bc):(dZ wk r).aT=r.aT:=by cases r<;>simp only[dZ];split<;>rfl
theorem Cd(wk:Bool)(r:bc):(dZ wk r).cU=r.cU:=by cases r<;>simp only[dZ];split<;>rfl
theorem Ce(wk:Bool)(r:bc):(dZ wk r).dT=r.dT:=by cases r<;>simp only[dZ];split<;>rfl
theorem GZ(wk:Bool)(r:bc)(h:(dZ wk r).kV=true):r.kV=true:=by(cases r<;>simp only[dZ]at h<;>first|exact h|skip);rfl
theorem G2(wk:Bool)(r:bc):(dZ wk r).gN=r.gN:=by cases r<;>simp only[dZ];split<;>rfl
theorem G3(wk:Bool)(r:bc):(dZ wk r).left=r.left:=by cases r<;>simp only[dZ];split<;>rfl
def ar.key(c:ar):Option Nat×List dN×Bool×Nat:=(c.cur,c.kids,c.pend,c.b7)
def bc.oK:bc->Option ar| .act _ _ c=>some c| .blk _ c=>some c| .quit _=>none
section
variable{ty:aq}{P:aB}{Fin:Perm->Perm->ay->aa->Prop}{G G':di}{t u:dY}{w w':aa}{N N':Nat}
theorem GroupOk.frame{p:Nat}(h:GroupOk ty G N t w p)(hN:N<=N')(nR:(G'.role p).cU.map ar.key=(G.role p).cU.map ar.key)(Pu:(G'.role p).dT=(G.role p).dT)(hblk:(G'.role p).kV=true->(G.role p).kV=true)(hkids:G'.kids p=G.kids p)(hks:∀k∈G.kids p,(G'.role k).aT=(G.role k).aT/\G'.par k=G.par k/\G'.own k=G.own k/\G'.rd k=G.rd k/\G'.H k=G.H k\/(G'.role k).aT=(G.role k).aT/\G'.par k=G.par k/\∃up,(G.role k).aT= .early up)(hW:∀z,(∃c,(G.role p).cU=some c/\c.cur=some z)->G'.W z=G.W z/\∀st sm,bN ty z w st sm->bN ty z w' st sm)(hsame:∀k∈G.kids p,(∃r,G.H k=some (.past r))->∀a,G.own k a\/G.rd k a->dB a w w')(hsize:w.heap.size<=w'.heap.size):GroupOk ty G' N' (t++u) w' p:=by unfold GroupOk at h⊢;rw[Pu];cases hc:(G.role p).cU with|none=>rw[hc]at h nR;(have hc':(G'.role p).cU=none:=by simpa using nR);rw[hc'];simp only at h⊢;rw[hkids];exact h|some c=>rw[hc]at nR;obtain⟨c',hc',hkey⟩:=yn.1 nR;(obtain⟨k1,aG,k3,k4⟩:c'.cur=c.cur/\c'.kids=c.kids/\c'.pend=c.pend/\c'.b7=c.b7:=by simpa[ar.key]using hkey);rw[hc'];cases hs:(G.role p).dT with|none=>rw[hc,hs]at h;simp only at h⊢;rw[hkids];exact h|some s=>rw[hc,hs]at h;simp only at h⊢;rw[k1,aG,k3];cases hz:c.cur with|none=>rw[hz]at h;simp only at h⊢;rw[hkids];exact h|some z=>rw[hz]at h;simp only at h⊢;obtain⟨h1,h2,h3,h4,h5⟩:=h;obtain⟨w1,w2⟩:=hW z ⟨c,hc,hz⟩;have kk:∀k∈G.kids p,(G'.role k).aT=(G.role k).aT:=fun k hk=>(hks k hk).elim (·.1) (·.1);(have cnt:Count G' p=Count G p:=by unfold Count;rw[hkids];exact List.countP_congr fun k hk=>by rw[kk k hk]);(have h3':kW (vI G' N' (t++u) w' z p) (G.kids p) c.kids:=by refine h3.imp fun k v hk x=>?_;obtain⟨x1,x2,x3,x4⟩:=x;(have rel:lM G t w z k v->G'.own k=G.own k->G'.rd k=G.rd k->G'.H k=G.H k->lM G' (t++u) w' z k v:=by rintro⟨⟨r,hr,hsaid⟩,hv⟩e1 e2 e3;refine⟨⟨r,by rw[e3];exact hr,hsaid.app u⟩, ?_⟩;rw[e1,e2];exact v.jq (hsame k hk ⟨r,hr⟩) hsize hv);have e:=kk k hk;rcases hks k hk with⟨_,y2,y3,y4,qw⟩|⟨_,y2,up,y3⟩;{refine⟨x1,cw x2 hN,y2.trans x3, ?_⟩;rw[e];revert x4;cases(G.role k).aT with|early up=>exact id|rel up=>exact fun q=>⟨q.1,rel q.2 y3 y4 qw⟩|last j up=>exact fun q=>⟨q.1,rel q.2 y3 y4 qw⟩|gone=>exact fun q=>rel q y3 y4 qw};·refine⟨x1,cw x2 hN,y2.trans x3, ?_⟩;rw[e];rw[y3]at x4⊢;exact x4);refine⟨w1.trans h1,h2,by rw[hkids];exact h3',by rw[hkids];exact h4, ?_⟩;·(have op:jE G p->jE G' p:=fun o k hk=>by rw[hkids]at hk;rw[kk k hk];exact o k hk);(have vJ:kX G p->kX G' p:=fun o k hk=>by rw[hkids]at hk;rw[kk k hk];exact o k hk);revert h5;cases s with|work=>simp only[Mode];rw[cnt,k3,k4];exact fun⟨a,b,d⟩=>⟨w2 _ _ a,op b,d⟩|jS vs=>simp only[Mode];rw[cnt,k3];exact fun⟨a,b,d,e⟩=>⟨a,w2 _ _ b,op d,e⟩|reg=>simp only[Mode];rw[cnt,k3];rintro⟨a,⟨b,d,e⟩|⟨L,hL,j,up,b,d,e⟩|⟨b,d,e⟩⟩;{exact⟨a, .inl ⟨w2 _ _ b,op d,e⟩⟩};{exact⟨a, .inr (.inl ⟨L,by rw[hkids];exact hL,j,up,by rw[kk L hL];exact b,fun k hk hne=>by rw[hkids]at hk;rw[kk k hk];exact d k hk hne,w2 _ _ e⟩)⟩};(·refine⟨a, .inr (.inr ⟨vJ b,w2 _ _ d, ?_⟩)⟩;cases hb:(G'.role p).kV with|false=>rfl|true=>rw[hblk hb]at e;cases e)|awake=>simp only[Mode];rw[k3];exact fun⟨a,b,d⟩=>⟨a,vJ b,w2 _ _ d⟩|rel=>exact id|kS=>exact id|kT=>exact id|kU=>exact id
theorem Pv{w:aa}{a:al}{v:ab}(b:Nat):(w.setCell a v).shape? b=w.shape? b:=by simp only[dz,fi,jl];by_cases e:a.block=b;{subst e;rw[if_pos rfl];cases w.heap[a.block]? with|none=>rfl|some o=>cases o<;>simp<;>split<;>simp};·rw[if_neg e]
theorem vK(w:aa)(a:al)(v:ab):(w.setCell a v).heap.size=w.heap.size:=by simp[fi]
theorem tw(w:aa)(a:al)(v:ab){b:Nat}(h:b≠a.block):(w.setCell a v).heap[b]?=w.heap[b]?:=by simp only[fi,jl];rw[if_neg (Ne.symm h)]
theorem yX{w w':aa}{a:al}(h:w'.heap[a.block]?=w.heap[a.block]?):dB a w w':=by refine⟨?_, ?_, ?_,fun _=>h, ?_⟩<;>simp only[World.cell?,World.frozen?,dz,kR,h]
theorem Pw{c:ar}{z:Nat}{a:al}{v:ab}(ha:a.block=z)(hl:WgLive ty z (w.setCell a v))(hc:∀x,c.own x\/c.rd x->x.block≠z):aS ty c w (w.setCell a v):=by subst ha;refine⟨by rw[vK];exact aI _,fun x hx=>yX (tw w a v (hc x hx)),fun b s h=>by rw[Pv];exact h,fun y _ hy=>?_,fun y _ _ hy=>?_,rfl,rfl,rfl⟩;all_goals by_cases e:y=a.block;{rw[e];exact hl};·obtain⟨st,sm,h⟩:=hy;exact⟨st,sm,h.of_block (tw w a v e)⟩
theorem Px{c c':ar}{es:Array b1}{cj:ar}(h:Ord ty c c' w w' es)(hsep:∀a,c.own a->¬cj.own a/\¬cj.rd a)(hb:∀a,cj.own a\/cj.rd a->a.block<w.heap.size)(hz:∀z,(cj.cur=some z\/∃v,cj.up=some (z,v))->z<w.heap.size/\∀o,¬c.own ⟨z,o,none⟩):aS ty cj w w':=by refine⟨h.size,fun a ha=>h.cell a (hb a ha) fun ho=>ha.elim (hsep a ho).1 (hsep a ho).2,h.shape,fun z e=>?_,fun z v e=>?_,h.os,h.tape,h.output⟩;{rintro⟨st,sm,hl⟩;obtain⟨h1,h2⟩:=hz z (.inl e);exact⟨st,sm,hl.of_block (h.out z h1 h2)⟩};·rintro⟨st,sm,hl⟩;obtain⟨h1,h2⟩:=hz z (.inr ⟨v,e⟩);exact⟨st,sm,hl.of_block (h.out z h1 h2)⟩
end
section
variable{ty:aq}{P:aB}{Fin:Perm->Perm->ay->aa->Prop}{Shun:kK->Prop}{aC:Nat}{Z:Nat->Prop}{w₀:aa}{G G':di}{gs:Array ay}{t:dY}{w w':aa}
def gO(P:aB)(g g':ay):Bool:=mayWake P g&&g'.status != .blocked&&g'.status != .waiting
theorem Py{g g' x:ay}{w':aa}(h:gO P g g'=false):kq P g g' w' x=x:=by unfold kq;rw[if_neg (by unfold gO at h;rw[h];simp)]
theorem Pz{g g' x:ay}{w':aa}(h:gO P g g'=true):kq P g g' w' x=x.again w':=by unfold kq;rw[if_pos (by unfold gO at h;exact h)]
theorem G4{g g' x:ay}{w':aa}(h:x.status= .running\/x.status= .finished):kq P g g' w' x=x:=by unfold kq;split;{exact again_running _ h};·rfl
theorem ofEvents_g{i:Nat}{fn:fM}{pos:String}{es:Array b1}:∀op∈fy i fn pos es,op.g=i:=ConcR.g_of_ofEvents
theorem Loc.other{i j:Nat}{g g' x:ay}{fn:fM}{pos:String}{es:Array b1}(hij:i≠j)(h:Loc ty P Fin G t w j x (G.role j))(tx:∀c,(G.role j).oK=some c->aS ty c w w')(hH:(G'.H j=G.H j/\G'.own j=G.own j/\G'.rd j=G.rd j)\/((∃q,G.role j= .quit q)/\G'.H j= .none)):Loc ty P Fin G' (t++fy i fn pos es) w' j (kq P g g' w' x) (dZ (gO P g g') (G.role j)):=by have hd:Deaf (t++fy i fn pos es) j=Deaf t j:=Deaf_other t hij _ ofEvents_g;revert h;cases hr:G.role j with|act n s c=>rintro⟨h1,h2,h3,h4,h5⟩;have hH':=hH.resolve_right (fun⟨⟨q,hq⟩,_⟩=>by rw[hr]at hq;cases hq);rw[G4 (.inl h1.running.1)];refine⟨h1.rely (tx c (by rw[hr];rfl)),h2,hd.trans h3,h4, ?_⟩;rw[hH'.1,hH'.2.1,hH'.2.2];exact h5|blk n c=>rintro⟨h1,h2,h3,h4,h5,h6,h7,h8,h9⟩;have hH':=hH.resolve_right (fun⟨⟨q,hq⟩,_⟩=>by rw[hr]at hq;cases hq);have hs:=h3.rely (tx c (by rw[hr];rfl));(cases hw:gO P g g' with|true=>rw[Pz hw];(have e:x.again w'={x with status:= .running}:=by unfold Goroutine.again;rw[h1,h2]);rw[e];refine⟨hs,h4,hd.trans h5,h6, ?_⟩;simp only[cl.early,if_true];rw[hH'.1,hH'.2.1,hH'.2.2];exact⟨h7,h8,h9⟩|false=>rw[Py hw];refine⟨h1,h2,hs,h4,hd.trans h5,h6, ?_⟩;rw[hH'.1,hH'.2.1,hH'.2.2];exact⟨h7,h8,h9⟩)|quit q=>rintro⟨h1,h2,h3⟩;rw[G4 h1.status];refine⟨by rw[hd];exact h1,fun k=>?_,h3⟩;rcases hH with⟨e,_⟩|⟨_,e⟩;{rw[e];exact h2 k};·rw[e];simp
theorem Inv.next(I:Inv ty P Fin Shun aC Z w₀ G gs w t){i:Nat}{g g':ay}{es:Array b1}{ρ:bc}(hi:gs[i]?=some g)(bM:∀j,G'.role j=if j=i then ρ else dZ (gO P g g') (G.role j))(hH:∀j,j≠i->(G'.H j=G.H j/\G'.own j=G.own j/\G'.rd j=G.rd j)\/((∃q,G.role j= .quit q)/\G'.H j= .none))(tx:∀j c,j≠i->j<gs.size->(G.role j).oK=some c->aS ty c w w')(base:Base Shun aC Z w₀ G' w')(ti:dM Shun (t++fy i g.frame.fn g.frame.place es) G'.H G'.own G'.rd G'.W w'.heap.size)(mW:lK (t++fy i g.frame.fn g.frame.place es))(sep:Sep G'.H G'.own G'.rd)(hloc:Loc ty P Fin G' (t++fy i g.frame.fn g.frame.place es) w' i g' ρ)(Cf:∀p,p<gs.size->GroupOk ty G' gs.size (t++fy i g.frame.fn g.frame.place es) w' p)(hkids:∀p,gs.size<=p->G'.kids p=[])(hchild:∀k,k≠0->G'.H k≠ .none->k∈G'.kids (G'.par k)):Inv ty P Fin Shun aC Z w₀ G' ((gs.map (kq P g g' w')).setIfInBounds i g') w' (t++fy i g.frame.fn g.frame.place es):=by have hlt:i<gs.size:=(dJ.1 hi).1;(have hsz:((gs.map (kq P g g' w')).setIfInBounds i g').size=gs.size:=by simp);refine⟨base,ti,mW,sep,fun j hj=>?_,fun j hj=>?_,by rw[hsz];exact I.first,fun p hp=>?_,fun p hp=>hkids p (by rw[hsz]at hp;exact hp),hchild⟩;{rw[hsz]at hj;by_cases e:j=i;{subst e;refine⟨g',by rw[Array.getElem?_setIfInBounds_self_of_lt (by simpa using hlt)], ?_⟩;rw[bM j,if_pos rfl];exact hloc};·obtain⟨x,hx,hl⟩:=I.loc j hj;refine⟨kq P g g' w' x,by rw[Array.getElem?_setIfInBounds_ne (Ne.symm e),qd,hx];rfl, ?_⟩;rw[bM j,if_neg e];exact hl.other (Ne.symm e) (fun c hc=>tx j c e hj hc) (hH j e)};{rw[hsz]at hj;obtain⟨h1,h2⟩:=I.above j hj;refine⟨by rw[Deaf_other t (by omega) _ ofEvents_g];exact h1, ?_⟩;rcases hH j (by omega)with⟨e,_⟩|⟨_,e⟩;{rw[e];exact h2};·exact e};·rw[hsz]at hp⊢;exact Cf p hp
def Tree.rV(x y:Tree):Prop:=∃bx f i,y= .node bx f/\x=f i
theorem Tree.PC:WellFounded Tree.rV:=by constructor;intro y;induction y with|node bx f ih=>constructor;rintro x ⟨acT,f',i,e,rfl⟩;cases e;exact ih i
theorem Tree.yY{bx:Type}{f:bx->Tree}(i:bx):Tree.rV (f i) (.node bx f):=⟨bx,f,i,rfl,rfl⟩
def mX(m l:List Tree):Prop:=∃x r ys,l.Perm (x::r)/\m.Perm (ys++r)/\∀y∈ys,Tree.rV y x
theorem Cg{l l':List Tree}(h:Acc mX l)(p:l.Perm l'):Acc mX l':=⟨_,fun _⟨x,r,ys,h1,h2,h3⟩=>h.inv ⟨x,r,ys,p.trans h1,h2,h3⟩⟩
theorem G5{x:Tree}{l:List Tree}(h:x∈l):∃l',l.Perm (x::l'):=by obtain⟨s,t,rfl⟩:=List.append_of_mem h;exact⟨s++t,List.perm_middle⟩
theorem PD:∀{l₁:List Tree},Acc mX l₁->∀{l₂:List Tree},Acc mX l₂->Acc mX (l₁++l₂):=by intro l₁ h₁;induction h₁ with|intro l₁ h₁ PE=>intro l₂ h₂;induction h₂ with|intro l₂ h₂ PF=>constructor;rintro m ⟨x,r,ys,p1,p2,p3⟩;have hx:x∈l₁++l₂:=p1.mem_iff.2 (by simp);rcases List.mem_append.1 hx with hx|hx;{obtain⟨a,ha⟩:=G5 hx;(have hr:r.Perm (a++l₂):=by have:(x::r).Perm (x::(a++l₂)):=p1.symm.trans (ha.append_right l₂);exact List.Perm.cons_inv this);refine Cg (PE (ys++a) ⟨x,a,ys,ha, .refl _,p3⟩ ⟨_,h₂⟩) ?_;rw[dS];exact(hr.symm.append_left ys).trans p2.symm};·obtain⟨a,ha⟩:=G5 hx;(have hr:r.Perm (l₁++a):=by have:(x::r).Perm (x::(l₁++a)):=p1.symm.trans ((ha.append_left l₁).trans List.perm_middle);exact List.Perm.cons_inv this);refine Cg (PF (ys++a) ⟨x,a,ys,ha, .refl _,p3⟩) ?_;(have:(l₁++(ys++a)).Perm (ys++(l₁++a)):=by rw[<-dS,<-dS];exact List.perm_append_comm.append_right a);exact this.trans ((hr.symm.append_left ys).trans p2.symm)
theorem PG:Acc mX []:=⟨_,fun _⟨x,r,ys,h1,_⟩=>by have:=h1.length_eq;simp at this⟩
theorem G6(ys:List Tree)(h:∀y∈ys,Acc mX [y]):Acc mX ys:=by induction ys with|nil=>exact PG|cons y ys ih=>have:=PD (h y (by simp)) (ih fun z hz=>h z (by simp[hz]));simpa using this
theorem PH(x:Tree):Acc mX [x]:=by induction x using Tree.PC.induction with|_ x ih=>constructor;rintro m ⟨y,r,ys,h1,h2,h3⟩;(have hr:r=[]:=by have:=h1.length_eq;cases r with|nil=>rfl|cons=>simp at this);subst hr;(have hy:y=x:=by have:y∈[x]:=h1.mem_iff.2 (by simp);simpa using this);subst hy;refine Cg (G6 ys fun z hz=>ih z (h3 z hz)) ?_;simpa using h2.symm
theorem PI:WellFounded mX:=⟨fun l=>G6 l fun y _=>PH y⟩
def kY(G:di):Nat->List Tree|0=>[]|N+1=>(G.role N).gN.toList++kY G N
def vL(G:di)(N:Nat):Nat:=sumTo N fun j=>(G.role j).left
def G7(G:di)(N:Nat):Nat:=sumTo N fun j=>(G.role j).yV
abbrev Lt3:List Tree×Nat×Nat->List Tree×Nat×Nat->Prop:=Prod.Lex mX (Prod.Lex (·<·) (·<·))
def fY(G:di)(N:Nat):List Tree×Nat×Nat:=(kY G N,vL G N,G7 G N)
theorem lt3_wf:WellFounded Lt3:=(Prod.lex ⟨mX,PI⟩ (Prod.lex Nat.lt_wfRel Nat.lt_wfRel)).wf
theorem G8{N:Nat}(h:∀j,j<N->(G'.role j).gN=(G.role j).gN):kY G' N=kY G N:=by induction N with|zero=>rfl|succ N ih=>rw[kY,kY,h N (by omega),ih fun j hj=>h j (by omega)]
theorem G9{i N:Nat}(hi:i<N)(h:∀j,j≠i->j<N->(G'.role j).gN=(G.role j).gN):∃r,(kY G N).Perm ((G.role i).gN.toList++r)/\(kY G' N).Perm ((G'.role i).gN.toList++r):=by induction N with|zero=>omega|succ N ih=>by_cases e:N=i;{subst e;exact⟨kY G N, .refl _,by rw[kY,G8 fun j hj=>h j (by omega) (by omega)]⟩};·obtain⟨r,h1,h2⟩:=ih (by omega) fun j hj hjN=>h j hj (by omega);refine⟨(G.role N).gN.toList++r, ?_, ?_⟩;{rw[kY];refine(h1.append_left _).trans ?_;rw[<-dS,<-dS];exact List.perm_append_comm.append_right r};·rw[kY,h N e (by omega)];refine(h2.append_left _).trans ?_;rw[<-dS,<-dS];exact List.perm_append_comm.append_right r
theorem Ch{f:bc->Nat}{i N:Nat}{ρ:bc}{wk:Bool}(hf:∀r,f (dZ wk r)=f r)(bM:∀j,G'.role j=if j=i then ρ else dZ wk (G.role j))(hi:i<N):sumTo N (fun j=>f (G'.role j))+f (G.role i)=sumTo N (fun j=>f (G.role j))+f ρ:=by have e:=sumTo_upd (fun j=>f (G.role j)) (f ρ) id hi;simp only[id]at e;rw[<-e];congr 1;refine sumTo_congr fun a _=>?_;rw[bM a];by_cases h:a=i;{subst h;simp[upd]};·simp[upd,h,hf]
theorem Ha{i N:Nat}{ρ:bc}{wk:Bool}(bM:∀j,G'.role j=if j=i then ρ else dZ wk (G.role j))(h:ρ.gN=(G.role i).gN):kY G' N=kY G N:=G8 fun j _=>by rw[bM j];split;{rename_i e;rw[e];exact h};·exact G2 _ _
theorem vM{i N:Nat}{ρ:bc}{wk:Bool}{vN:Tree}(bM:∀j,G'.role j=if j=i then ρ else dZ wk (G.role j))(hi:i<N)(h0:(G.role i).gN=some vN)(h:∀y,ρ.gN=some y->Tree.rV y vN):Lt3 (fY G' N) (fY G N):=by refine Prod.Lex.left _ _ ?_;(obtain⟨r,h1,h2⟩:=G9 (G:=G) (G':=G') hi fun j hj _=>by rw[bM j,if_neg hj,G2]);rw[h0]at h1;rw[bM i,if_pos rfl]at h2;refine⟨vN,r,ρ.gN.toList,h1,h2,fun y hy=>h y ?_⟩;cases hρ:ρ.gN with|none=>rw[hρ]at hy;simp at hy|some z=>rw[hρ]at hy;simp at hy;rw[hy]
theorem PK{i N:Nat}{ρ:bc}{wk:Bool}(bM:∀j,G'.role j=if j=i then ρ else dZ wk (G.role j))(hi:i<N)(h:ρ.gN=(G.role i).gN)(h':ρ.left<(G.role i).left):Lt3 (fY G' N) (fY G N):=by have e2:=Ch (G:=G) (G':=G') (f:=bc.left) (G3 wk) bM hi;unfold fY;rw[Ha bM h];refine N6 _ (Prod.Lex.left _ _ ?_);simp only[vL];omega
theorem PL(r:bc):dZ false r=r:=by cases r<;>rfl
theorem PM{i N:Nat}{ρ:bc}(bM:∀j,G'.role j=if j=i then ρ else dZ false (G.role j))(hi:i<N)(h:ρ.gN=(G.role i).gN)(h':ρ.left=(G.role i).left)(h'':ρ.yV<(G.role i).yV):Lt3 (fY G' N) (fY G N):=by have e2:=Ch (G:=G) (G':=G') (f:=bc.left) (G3 false) bM hi;have e3:=Ch (G:=G) (G':=G') (f:=bc.yV) (fun r=>by rw[PL]) bM hi;(have x2:vL G' N=vL G N:=by simp only[vL];omega);unfold fY;rw[Ha bM h,x2];refine N6 _ (N6 _ ?_);simp only[G7];omega
end
section
variable{Shun:kK->Prop}{t u:dY}{H:Nat->Option oI}{own rd:Nat->Perm}{W:Nat->Option Nat}{B B':Nat}
theorem dM.PN(T:dM Shun t H own rd W B)(hu:∀op∈u,op.act.low B/\(∀x,op.act.touch?=some x->∃a,key x.loc=some a/\x.kind= .atomic/\(W a.block).isSome=true)/\∀a,op.act≠ .mark (.release a))(hfree:∀j a,(H j).isSome=true->own j a\/rd j a->W a.block=none):dM Shun (t++u) H own rd W B:=by
 have cases':∀j x,hJ (t++u) j=some x->(j<t.size/\hJ t j=some x)\/(∃a,key x.loc=some a/\x.kind= .atomic/\(W a.block).isSome=true):=by intro j x hx;obtain⟨op,ho,hop⟩:=oz hx;rcases qc ho with⟨hlt,_⟩|⟨_,hou⟩;{exact .inl ⟨hlt,by rwa[ym hlt]at hx⟩};·exact .inr ((hu op hou).2.1 x hop)
 have calm:∀said j x b,hJ (t++u) j=some x->(∃a,key b.loc=some a/\b.kind= .atomic/\(W a.block).isSome=true)->¬x.conflicts said b/\¬b.conflicts said x:=by rintro said j x b hx ⟨a,hl,hk,hW⟩;(have hkey:x.loc=b.loc->x.kind= .atomic\/x.kind= .said:=by intro e;rcases cases' j x hx with⟨_,h⟩|⟨_,_,h,_⟩;{obtain⟨p,hp⟩:=Bw.1 hW;exact(T.wg j x a h (by rw[e];exact hl) p hp).imp id (·.1)};·exact .inl h);refine⟨fun c=>?_,fun c=>?_⟩;{rcases hkey c.1 with h|h<;>rcases c.2.2.2 with y|y|⟨_,y,z⟩<;>simp_all};·rcases hkey c.1.symm with h|h<;>rcases c.2.2.2 with y|y|⟨_,y,z⟩<;>simp_all
 refine⟨?_,fun i h a hi hx j x hj hl=>?_,fun i h a hi hx j x hj hl hw=>?_,fun j x a hj hl p hp=>?_,fun j x hj hm=>?_,seen_app T.seen fun op hop=>(hu op hop).1,fun op hop a ha=>?_⟩;{rintro said ⟨i,j,hij,⟨a,b,ha,hb,hc⟩,cy,n2⟩;rcases cases' i a ha with⟨hi,ha'⟩|h;{rcases cases' j b hb with⟨hj,hb'⟩|h;{exact T.clean said ⟨i,j,hij,⟨a,b,ha',hb',hc⟩,fun e=>cy (hb_app u e),fun e=>n2 (hb_app u e)⟩};·exact(calm said i a b ha h).1 hc};·exact(calm said j b a hb h).2 hc};{rcases cases' j x hj with⟨_,h'⟩|⟨b,hb,_,hW⟩;{exact(T.own i h a hi hx j x h' hl).app u};·rw[hl]at hb;cases hb;rw[hfree i a (by rw[hi];rfl) (.inl hx)]at hW;cases hW};{rcases cases' j x hj with⟨_,h'⟩|⟨b,hb,_,hW⟩;{exact(T.rd i h a hi hx j x h' hl hw).app u};·rw[hl]at hb;cases hb;rw[hfree i a (by rw[hi];rfl) (.inr hx)]at hW;cases hW};{rcases cases' j x hj with⟨hlt,h'⟩|⟨b,hb,hk,_⟩;{rw[g?_old hlt];exact T.wg j x a h' hl p hp};·exact .inl hk};{rcases cases' j x hj with⟨_,h'⟩|⟨b,hb,hk,hW⟩;{rcases T.all j x h' hm with⟨k,h,hk,hh⟩|h;{exact .inl ⟨k,h,hk,hh.app u⟩};·exact .inr h};·exact .inr ⟨hk, .inr ⟨b,hb,hW⟩⟩};·rcases s5.1 hop with h|h;{exact T.norel op h a ha};·exact(hu op h).2.2 a
end
section
variable{ty:aq}{P:aB}{Fin:Perm->Perm->ay->aa->Prop}{Shun:kK->Prop}{aC:Nat}{Z:Nat->Prop}{w₀:aa}{G G':di}{gs:Array ay}{t u:dY}{w w':aa}
theorem Hb{e:b1}(h:e.mute=true):fN e= .mark .disable\/fN e= .mark .enable:=by obtain⟨loc,wr,sy⟩:=e;cases loc<;>simp_all[Event.mute];rename_i m;cases m<;>simp_all[fN]
theorem Inv.free(I:Inv ty P Fin Shun aC Z w₀ G gs w t):∀j a,(G.H j).isSome=true->G.own j a\/G.rd j a->G.W a.block=none:=fun j a hj h=>(I.base.low j a hj h).2.1
theorem vO(I:Inv ty P Fin Shun aC Z w₀ G gs w t){i:Nat}{ρ:bc}{wk:Bool}(bM:∀j,G'.role j=if j=i then ρ else dZ wk (G.role j)){p:Nat}(hp:p<gs.size)(hks:i∈G.kids p->ρ.aT=(G.role i).aT)(Hc:G'.par=G.par)(hkids:G'.kids p=G.kids p)(hown:∀k∈G.kids p,(G'.own k=G.own k/\G'.rd k=G.rd k/\G'.H k=G.H k)\/(k=i/\∃up,(G.role i).aT= .early up))(hW:∀z,G.W z=some p->G'.W z=some p)(hwg:∀z st sm,G.W z=some p->bN ty z w st sm->bN ty z w' st sm)(hsame:∀k,(∃r,G.H k=some (.past r))->∀a,G.own k a\/G.rd k a->dB a w w')(hsize:w.heap.size<=w'.heap.size)(hpi:p=i->ρ.cU.map ar.key=(G.role i).cU.map ar.key/\ρ.dT=(G.role i).dT/\(ρ.kV=true->(G.role i).kV=true)):GroupOk ty G' gs.size (t++u) w' p:=by have hg:=I.group p hp;refine GroupOk.frame hg (aI _) ?_ ?_ ?_ hkids (fun k hk=>?_) (fun z hz=>?_) (fun k _ hr=>hsame k hr) hsize;{rw[bM p];split;{rename_i e;rw[e];exact(hpi e).1};·rw[Cd]};{rw[bM p];split;{rename_i e;rw[e];exact(hpi e).2.1};·rw[Ce]};{rw[bM p];split;{rename_i e;rw[e];exact(hpi e).2.2};·exact GZ _ _};{(have e1:(G'.role k).aT=(G.role k).aT:=by rw[bM k];split;{rename_i e;rw[e];exact hks (e▸hk)};·rw[yW]);rcases hown k hk with⟨e2,e3,bj⟩|⟨rfl,up,e2⟩;{exact .inl ⟨e1,by rw[Hc],e2,e3,bj⟩};·exact .inr ⟨e1,by rw[Hc],up,e2⟩};·obtain⟨c,hc,hcz⟩:=hz;(have vP:G.W z=some p:=by unfold GroupOk at hg;rw[hc]at hg;cases hs:(G.role p).dT with|none=>exfalso;revert hc hs;(cases G.role p with|act n s c=>simp only[bc.cU,bc.dT];split<;>simp|blk n c=>simp[bc.dT]|quit q=>simp[bc.cU])|some s=>rw[hs]at hg;simp only[hcz]at hg;exact hg.1);exact⟨(hW z vP).trans vP.symm,fun st sm h=>hwg z st sm vP h⟩
theorem PO(I:Inv ty P Fin Shun aC Z w₀ G gs w t){i q:Nat}{g:ay}{sl:Option (Nat×Nat)}(hi:gs[i]?=some g)(hrun:g.status= .running)(hr:G.role i= .quit q):∃G' gs' w' ops,runT P (crowd gs w sl) i=(.next (crowd gs' w' sl),ops)/\Lt3 (fY G' gs'.size) (fY G gs.size)/\Inv ty P Fin Shun aC Z w₀ G' gs' w' (t++ops):=by have hlt:i<gs.size:=(dJ.1 hi).1;obtain⟨x,hx,hl⟩:=I.loc i hlt;rw[hi]at hx;cases hx;rw[hr]at hl;obtain⟨hq,hnl,hi0⟩:=hl;cases q with|zero=>rw[hq.1]at hrun;cases hrun|succ k=>rcases hq with⟨hf,_⟩|⟨_,g',es,hm,hst,hq'⟩;{rw[hf]at hrun;cases hrun};(have PQ:(i==0)=false:=by simpa using hi0);(have hgo:aJ P (i==0) g w= .go g' w es:=by rw[PQ];exact hst w);have hrun':=runT_crowd_go (P:=P) (sl:=sl) (i:=i) hi hgo;let G':di:={G with role:=fun j=>if j=i then .quit k else dZ (gO P g g') (G.role j)};have bM:∀j,G'.role j=if j=i then .quit k else dZ (gO P g g') (G.role j):=fun _=>rfl;refine⟨G',_,w,_,hrun', ?_, ?_⟩;{rw[show((gs.map (kq P g g' w)).setIfInBounds i g').size=gs.size by simp];exact PK bM hlt (by rw[hr];rfl) (by rw[hr];exact Nat.lt_succ_self k)};·(have gm:∀op∈fy i g.frame.fn g.frame.place es,op.act.touch?=none/\op.act.low w.heap.size/\∀a,op.act≠ .mark (.release a):=by intro op hop;obtain⟨e,he,rfl⟩:=Conc.mem_ofEvents hop;refine⟨touch_mute (hm e he),low_mute (hm e he) _,fun a ea=>?_⟩;rcases Hb (hm e he)with h|h<;>simp only[h]at ea<;>cases ea);refine I.next hi bM (fun j _=> .inl ⟨rfl,rfl,rfl⟩) (fun j c _ _ _=>aS.refl ty c w) ⟨I.base.size,I.base.os,I.base.tape,I.base.output,I.base.jT,I.base.low,I.base.py,I.base.qv⟩ (I.ti.quiet gm) (I.mW.quiet fun op hop=>(gm op hop).1) I.sep ?_ (fun p hp=>?_) I.bare I.child;{exact⟨by rw[Deaf_own];exact hq',hnl,hi0⟩};·refine vO (G':=G') I bM hp (fun _=>by rw[hr];rfl) rfl rfl (fun k _=> .inl ⟨rfl,rfl,rfl⟩) (fun _ h=>h) (fun _ _ _ _ h=>h) (fun k _ a _=>dB.refl a w) (aI _) (fun e=>?_);rw[hr];exact⟨rfl,rfl,fun h=>by cases h⟩
