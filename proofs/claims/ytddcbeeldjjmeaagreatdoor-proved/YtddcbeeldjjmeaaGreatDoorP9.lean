/- ONE GOROUTINE's WHOLE. -/
import Derived.Test.YtddcbeeldjjmeaaGreatDoorP8
set_option linter.unusedVariables false
open Array renaming ext_getElem?->rM,getElem?_eq_getElem->gk,getElem?_eq_none->gi,getElem?_eq_some_iff->dJ,getElem?_map->qd
open Go renaming Addr->al,Frame->an,FuncId->fM,Goroutine->ay,Item->cf,Operand->fA,Program->aB,TypeId->aq,Value->ab,World->aa,stepG->aJ
open List renaming mem_append->nJ,mem_cons->cJ,not_mem_nil->ko
open Option renaming map_some->iy
namespace Go.Eq
open Go Go.Conc Go.bF
open Go.ConcN(WgLive)
section
variable[Env][aR]{P:aB}{π:Ren}
structure AtCall(P:aB)(az:an)(f:fM)(args:Array fA):Prop where
 run:az.mode= .run
 kind:az.kind= .normal
 round:az.roundOf=none
 ops:∃ops i rest k o ats fn cd,az.todo= .inRegion ops (i::rest)::k/\ops[i]?=some o/\Region.wanted o (yielded ops az.tmps)=true/\o.op= .call {callee:= .value (.func f),args,argTypes:=ats}/\
 P.funcs[f]?=some fn/\(fn.name=="runtime.NumGoroutine")=false/\fn.body=some cd
 args:∀x,x∈args->pA x
def cL(Q:Act->aa->Prop):Exit->Act->aa->Prop| .normal,a,w=>Q a w|_,_,_=>False
def vQ(Q:Act->aa->Prop):Exit->Act->aa->Prop| .ret,a,w=>Q a w|_,_,_=>False
abbrev gP:=fM->Array ab->aa->(ab->aa->Prop)->Prop
inductive ak(P:aB)(bd:gP)(Stop:an->aa->Prop):ay->aa->Prop
 |done{f:an}{u:aa}:Stop f u->ak P bd Stop (live f []) u
 |step{g:ay}{u:aa}(g1:(Nat->Question->Nat)->ay)(u1:(Nat->Question->Nat)->aa):oL g->(g.frame.mode= .returning\/g.frame.roundOf≠none->g.callers≠[])->(∀t,∃es,aJ P true g (World.on u t)= .go (g1 t) (World.on (u1 t) t) es)->
 (∀t ch,(g1 t).frame.mode≠ .panicking ch)->(∀t,ak P bd Stop (g1 t) (u1 t))->ak P bd Stop g u
 |norm{b:an}{a:Act}{c:Code}{k:List cf}{cs:List an}{u:aa}(Q:Act->aa->Prop):@jU _ gS P c->(∀t,c.wp P (cL Q) a (World.on u t))->(∀a' u' t,Q a' u'->Q a' (World.on u' t))->
 (∀a' u',Q a' u'->ak P bd Stop (live (b.at a' k) cs) u')->ak P bd Stop (live (b.at a (.code c::k)) cs) u
 |last{b:an}{a:Act}{c:Code}{k:List cf}{cs:List an}{u:aa}(Q:Act->aa->Prop):(∀a' u',Q a' u'->a'.defers=[])->@jU _ gS P c->(∀t,c.wp P (vQ Q) a (World.on u t))->(∀a' u' t,Q a' u'->Q a' (World.on u' t))->
 (∀a' u' todo,Q a' u'->ak P bd Stop (live {b.at a' todo with mode:= .returning} cs) u')->ak P bd Stop (live (b.at a (.code c::k)) cs) u
 |enter{az:an}{cs:List an}{u:aa}{f:fM}{args:Array fA}:AtCall P az f args->aR.runs f->ak P bd Stop (live (Frame.enter P f (args.map az.eval) .normal) (az::cs)) u->ak P bd Stop (live az cs) u
 |call{az:an}{cs:List an}{u:aa}{f:fM}{args:Array fA}{Post:ab->aa->Prop}:AtCall P az f args->bd f (args.map az.eval) u Post->(∀x u',Post x u'->ak P bd Stop (live (az.finish x) cs) u')->ak P bd Stop (live az cs) u
theorem gh.trans{bs bs' fs fs':List an}(x:gh P π bs bs' fs fs')(h:gh P π [] [] bs bs'):gh P π [] [] fs fs':=by induction x with|base=>exact h|cons a _ ih=>exact .cons a ih
theorem P6(ok:cX P)(hf:gp P)(hb:fb P){m0 m l:Bool}{g g':ay}{u w:aa}(h:mY P π [] [] g g')(hno:oL g)(hcs:g.frame.mode= .returning\/g.frame.roundOf≠none->g.callers≠[])(W:bz π u w)(T:gb u w):match aJ P m0 g u l with| .go g1 u1 _=>(∃ch,g1.frame.mode= .panicking ch)\/∃g1' w1 bQ gs es,aJ P m g' w= .go g1' w1 es/\(∀e,e∈es->e∈gs)/\mY P bQ [] [] g1 g1'/\bz bQ u1 w1/\gb u1 w1/\gT π bQ w w1 gs| .ended _ _ _=>True|_=>False:=by obtain⟨f,f',cs,cs',rfl,rfl,h1,h2⟩:=h;rcases h1.live with hr|⟨hr,-⟩;{have hS:=MI (m0:=m0) (m:=m) (l:=l) ok hf hb h1 hno hr h2 (fun h=>hcs (.inr h)) (.inr rfl) W T;(cases hst:aJ P m0 (live f cs) u l<;>rw[hst]at hS<;>first|exact hS|skip);rename_i g1 u1 es1;rcases hS with⟨f1,ds,ch,e1,e2,-⟩|⟨g1',w1,bQ,gs,es,e1,e2,hrel,e3,bj,e5⟩;{exact .inl ⟨ch,by rw[e1];exact e2⟩};.rcases hrel with hrel|⟨b,l0,b',l',v,v',eb,-⟩;{exact .inr ⟨g1',w1,bQ,gs,es,e1,e2,hrel,e3,bj,e5⟩};.cases eb};.have hne:cs≠[]:=hcs (.inl hr);cases h2 with|base=>exact absurd rfl hne|@cons c1 c1' k k' hc hk=>have hS:=Nb (m0:=m0) (m:=m) (l:=l) (lr:=k) (rr:=k') hb h1 hr (.base:gh P π (c1::k) (c1'::k') (c1::k) (c1'::k')) W T;(cases hst:aJ P m0 (live f (c1::k)) u l<;>rw[hst]at hS<;>first|exact hS|skip);rename_i g1 u1 es1;rcases hS with⟨f1,ds,ch,e1,e2,-⟩|⟨g1',w1,bQ,gs,es,e1,e2,hrel,e3,bj,e5⟩;{exact .inl ⟨ch,by rw[e1];exact e2⟩};.refine .inr ⟨g1',w1,bQ,gs,es,e1,e2, ?_,e3,bj,e5⟩;have hc1:=hc.mono e5.le;have hk1:=hk.mono e5.le;rcases hrel with⟨f2,f2',cs2,acf,rfl,rfl,h3,h4⟩|⟨b,l0,b',l',v,v',eb,acg,hv,rfl,rfl⟩;{exact⟨f2,f2',cs2,acf,rfl,rfl,h3,h4.trans (.cons hc1 hk1)⟩};.cases eb;cases acg;exact⟨_,_,_,_,rfl,rfl,hc1.finish hv,hk1⟩
omit[Env][aR]in theorem ach{az:an}{x:List cf}(h:az.mode= .run)(hr:az.roundOf=none)(e:az.todo=x):az=az.at ⟨az.tmps,az.defers⟩ x:=by subst e;cases az;simp only at h hr;subst h hr;rfl
theorem Hr{az fr':an}(h:bV P π az fr'){args:Array fA}(ha:∀x,x∈args->pA x):aN π (args.map az.eval) (args.map fr'.eval):=by refine .lQ (by simp) fun i v v' e e'=>?_;rw[qd]at e e';cases hx:args[i]? with|none=>rw[hx]at e;cases e|some x=>rw[hx]at e e';simp only[iy,Option.some.injEq]at e e';subst e e';exact h.eval (ha x (Array.mem_of_getElem? hx))
theorem Hq{ty:aq}{FinN:Perm->Perm->ay->aa->Prop}{c:ar}{w:aa}{az fr':an}{cs':List an}{f:fM}{args:Array fA}(h:bV P π az fr')(ah:AtCall P az f args)(S:bq c w)(K:ao ty P FinN .work c (Eq.live (Frame.enter P f (args.map fr'.eval) .normal) (fr'::cs')) w):ao ty P FinN .work c (Eq.live fr' cs') w:=by
 obtain⟨ops,i,rest,k,o,ats,fn,cd,h1,h2,h3,h4,h5,h6,h7⟩:=ah.ops;have ht:fr'.todo= .inRegion ops (i::rest)::k.map (bO π):=by rw[h.todo,h1];rfl
 have eW:fr'.roundOf=none:=vR h.round ah.round;have e:=ach (h.mode▸ah.run) eW ht;have ee:(⟨fr'.tmps,fr'.defers⟩:Act).eval=fr'.eval:=by funext x;rw[<-Frame.eval_at fr' ⟨fr'.tmps,fr'.defers⟩ (.inRegion ops (i::rest)::k.map (bO π)),<-e]
 have hE:=ao.enter (ty:=ty) (P:=P) (FinN:=FinN) (s:= .work) (b:=fr') (a:=⟨fr'.tmps,fr'.defers⟩) (k:=k.map (bO π)) (cs:=cs') (ops:=ops) (i:=i) (rest:=rest) (o:=o) (f:=f) (fn:=fn) (cd:=cd) (args:=args) (ats:=ats) rfl S h2 (by rw[<-E7 h.tmps];exact h3) (by rw[h.iP];decide) h4 h5 h6 h7;rw[<-e,ee]at hE;exact hE K
omit[aR]in theorem NW[aR]{ops:Array Oper}(h:@AT _ gS P ops):AT P ops:=fun i o e=> .inr ((h i o e).resolve_left fun h=>h)
omit[aR]in theorem tA[aR]{c:Code}(h:@jU _ gS P c):jU P c:=by induction c with|region _ _ _=>exact NW h|seq _ _ i1 i2=>exact⟨i1 h.1,i2 h.2⟩|cond _ _ _ i1 i2=>exact⟨h.1,i1 h.2.1,i2 h.2.2⟩|block _ _ i=>exact i h|loop _ i=>exact i h|scope _ i=>exact i h|_=>exact h
omit[aR]in theorem aci[aR]:∀{x:cf},@lF _ gS P x->lF P x:=by
 intro x h;cases x;case code c=>exact tA h
 case inLoop c=>exact tA h
 case inScope c=>exact tA h
 case inRegion ops is=>exact NW h
 all_goals exact h
theorem Ho{b:an}{a:Act}{c:Code}{k:List cf}{f':an}(h:bV P π (b.at a (.code c::k)) f')(hc:@jU _ gS P c):@bV _ gS P π (ext cY (b.at a [.code c])) (ext cY {f' with todo:=[.code c]}):=by obtain⟨h1,h2,h3,-,-,-,h6,h8,h9,h10,h11,h12,h13,iZ⟩:=h;refine@bV.mk _ gS P π _ _ h1 h2 h3 rfl (fun x hx=>?_) (fun x hx=>?_) h6 h8 h9 h10 h11 h12 h13 iZ;{have hx:x∈[Item.code c,Item.code (.refuse "")]:=hx;simp only[cJ,ko,or_false]at hx;rcases hx with rfl|rfl<;>exact trivial};.have hx:x∈[Item.code c,Item.code (.refuse "")]:=hx;simp only[cJ,ko,or_false]at hx;rcases hx with rfl|rfl;{exact hc};.exact trivial
omit[aR]in theorem Hp[aR]{f f':an}{k k':List cf}(h:@bV _ gS P π f f')(hk':k'=k.map (bO π))(hd:∀x,x∈k->iY π x)(hk:∀x,x∈k->lF P x):bV P π (ext k f) (ext k' f'):=by obtain⟨h1,h2,h3,h4,h4',h5,h6,h8,h9,h10,h11,h12,h13,iZ⟩:=h;subst hk';refine⟨h1,h2,h3, ?_,fun x hx=>?_,fun x hx=>?_,h6,h8,h9,h10,h11,h12,h13,iZ⟩;{show f'.todo++k.map (bO π)=(f.todo++k).map (bO π);rw[h4,List.map_append]};{rcases nJ.1 hx with hx|hx;{exact h4' x hx};.exact hd x hx};.rcases nJ.1 hx with hx|hx;{exact aci (h5 x hx)};.exact hk x hx
end
section
variable[Env]{P:aB}
def Co(P:aB):gP:=fun f args u Post=>Env.fl f/\(∀t,Calls P f args (World.on u t) fun e w=>∃v,e= .returned v/\Post v w)/\∀v u t,Post v u->Post v (World.on u t)
def Hn(O O':gP):gP:=fun f args u Post=>O f args u Post\/O' f args u Post
variable{ty:aq}{FinN:Perm->Perm->ay->aa->Prop}{C:ar->Prop}
end
section
variable[Env][aR]{P:aB}{bd:gP}{Stop:an->aa->Prop}{u:aa}{b:an}{a:Act}{k:List cf}{cs:List an}{ops:Array Oper}{i:Nat}{rest:List Nat}{o:Oper}{v:ab}
theorem ak.ctl{g g':ay}(hf:oL g)(hr:g.frame.mode= .returning\/g.frame.roundOf≠none->g.callers≠[])(h:∀w,aJ P true g w= .go g' w #[])(hm:∀ch,g'.frame.mode≠ .panicking ch)(K:ak P bd Stop g' u):ak P bd Stop g u:= .step (fun _=>g') (fun _=>u) hf hr (fun _=>⟨_,h _⟩) (fun _=>hm) fun _=>K
omit[Env][aR]in theorem nT(x:an)(a:Act)(t:List cf)(cs:List an):∀ch,(G (x.at a t) cs).frame.mode≠ .panicking ch:=fun ch e=>by cases e
theorem ak.val{u':aa}(hf:¬aR.gQ o)(ho:ops[i]?=some o)(hw:Region.wanted o (yielded ops a.tmps)=true)(hk:b.kind≠ .early)(h:∀t,(execOp a.eval o).run P (World.on u t)= .ok (.value v) (World.on u' t))(K:ak P bd Stop (G (b.at (a.put o.dst v) (.inRegion ops rest::k)) cs) u'):ak P bd Stop (G (b.at a (.inRegion ops (i::rest)::k)) cs) u:=by refine .step (fun _=>_) (fun _=>u') (fun ops' i' is' k' o' e e'=>?_) (fun e=>e.elim (fun e=>by cases e) fun e=>absurd rfl e) (fun t=>⟨_,stepG_value ho hw hk (h t)⟩) (fun _=>nT _ _ _ _) fun _=>K;simp only[G,Frame.at,List.cons.injEq,Item.inRegion.injEq]at e;obtain⟨⟨rfl,rfl,-⟩,-⟩:=e;rw[ho]at e';cases e';exact hf
end
end Go.Eq
namespace Go.bF
open Go Go.Conc Go.Eq
open Go.ConcN(WgLive)
section
variable{ty:aq}{P:aB}{FinN:Perm->Perm->ay->aa->Prop}{s:cl}{c c':ar}{w w':aa}
theorem ao.nf{g g':ay}{own' rd':Perm}(hs:s.early=true)(hr:g.status= .running)(ho:g.offers=none)(hm:c.main=true)(fr:c.cur=none)(S:bq c w)(h:∀w₁,aJ P c.main g w₁= .go g' w₁ #[])(h1:∀a,own' a->c.own a\/c.rd a)(h2:∀a,rd' a->c.own a\/c.rd a)(K:ao ty P FinN s {c with own:=own',rd:=rd'} g' w):ao ty P FinN s c g w:=by refine ao.ord hs hr ho fun w₁ hrel=>⟨g',w₁,#[],{c with own:=own',rd:=rd'},h w₁, ?_,K.rely ?_⟩;{have S1:=S.rely hrel;refine⟨Nat.le_refl _,fun _ _ _=>rfl,fun a _ _=> .refl a w₁,fun _ _ h=>h,rfl,rfl,rfl,fun e he=>by simp at he,fun j e x hj=>by simp at hj,rfl,rfl,fun a ha=>⟨(h1 a ha).elim .inl fun e=> .inr (.inr ⟨hm,fr,e⟩),S1.low a (h1 a ha)⟩,fun a ha=>⟨(h2 a ha).elim (fun e=> .inr (.inl e)) .inl,S1.low a (h2 a ha)⟩,rfl,rfl,rfl,rfl, .inl rfl⟩};.exact⟨hrel.size,fun a ha=>hrel.same a (ha.elim (h1 a) (h2 a)),hrel.shape,hrel.cur,hrel.up,hrel.os,hrel.tape,hrel.output⟩
structure Over(ty:aq)(c:ar)(w:aa)(c':ar)(w':aa):Prop where
 cfg:c'={c with own:=c'.own,rd:=c'.rd}
 own:∀a,c.own a\/c.rd a->c'.own a
 own':∀a,c'.own a->c.own a\/c.rd a\/w.heap.size<=a.block
 size:w.heap.size<=w'.heap.size
 same:∀a,c.own a\/c.rd a->dB a w w'
 shape:∀b s,w.shape? b=some s->w'.shape? b=some s
 up:∀z v,c.up=some (z,v)->WgLive ty z w->WgLive ty z w'
 os:w'.os=w.os
 tape:w'.tape=w.tape
 output:w'.output=w.output
 aW:bq c' w'
end
section
variable[Env]{nt:aq}{dg:Int->ByteArray->ByteArray->Int->Int->Int}{π:Ren}{u w:aa}
def mi(π:Ren)(l l':Option al):Prop:=(l=none/\l'=none)\/∃x y,l=some x/\l'=some y/\da π x y
theorem x8{x:Nat}{l':Option al}(h:mi π (ptr x) l'):∃y,l'=ptr y/\π x=some y:=by rcases h with⟨h,-⟩|⟨a,b,e,rfl,h⟩;{cases h};.cases e;obtain⟨bL,o1,s1⟩:=b;obtain⟨h1,h2,h3,-⟩:=h;simp only at h1 h2 h3;subst h2 h3;exact⟨bL,rfl,h1⟩
theorem NX{y:Nat}{l:Option al}(h:mi π l (ptr y)):∃x,l=ptr x/\π x=some y:=by rcases h with⟨-,h⟩|⟨a,b,rfl,e,h⟩;{cases h};.cases e;obtain⟨bL,o1,s1⟩:=a;obtain⟨h1,h2,h3,-⟩:=h;simp only at h1 h2 h3;subst h2 h3;exact⟨bL,rfl,h1⟩
theorem rE{l':Option al}(h:mi π none l'):l'=none:=by rcases h with⟨-,h⟩|⟨a,b,e,-⟩;{exact h};.cases e
theorem Bt{l:Option al}(h:mi π l none):l=none:=by rcases h with⟨h,-⟩|⟨a,b,-,e,-⟩;{exact h};.cases e
theorem acj{kind:Int}{p v:ByteArray}{l r:Option al}{d:Int}{s:Bool}{c:Array ab}(h:aN π (fp kind p v l r d s) c):∃l' r',c=fp kind p v l' r' d s/\mi π l l'/\mi π r r':=by
 have g:∀i x,(fp kind p v l r d s)[i]?=some x->∃y,c[i]?=some y/\av π x y:=fun i x e=>by rcases h.get? i with⟨e1,-⟩|⟨x1,y,e1,e2,e3⟩;{rw[e]at e1;cases e1};.rw[e]at e1;cases e1;exact⟨y,e2,e3⟩
 have hp:∀{o:Option al}{y:ab},av π (.pointer o) y->∃o',y= .pointer o'/\mi π o o':=fun{o y}hv=>by cases hv with|fJ=>exact⟨none,rfl, .inl ⟨rfl,rfl⟩⟩|pointer ha=>exact⟨_,rfl, .inr ⟨_,_,rfl,rfl,ha⟩⟩
 obtain⟨y0,e0,h0⟩:=g 0 _ rfl;obtain⟨y1,e1,h1⟩:=g 1 _ rfl;obtain⟨y2,e2,h2⟩:=g 2 _ rfl;obtain⟨y3,e3,h3⟩:=g 3 _ rfl;obtain⟨y4,bj,h4⟩:=g 4 _ rfl;obtain⟨qw,e5,h5⟩:=g 5 _ rfl;obtain⟨y6,e6,h6⟩:=g 6 _ rfl;obtain⟨l',rfl,hl⟩:=hp h3;obtain⟨r',rfl,hr⟩:=hp h4;cases h0;cases h1;cases h2;cases h5;cases h6;refine⟨l',r',rM fun i=>?_,hl,hr⟩;rcases i with _|_|_|_|_|_|_|i;{exact e0};{exact e1};{exact e2};{exact e3};{exact bj};{exact e5};{exact e6};.have hs:c.size=7:=h.1.symm;rw[gi (by omega)];simp[fp]
def nF(u:aa)(b:Nat):Prop:=∀(i:Nat)v c t f,u.heap[b]?=some (.cells c t f)->c[i]?=some v->¬iS v
theorem ack{kind:Int}{p v:ByteArray}{l r:Option al}{d:Int}{s:Bool}{c:Array ab}(hj:∀(i:Nat)v,c[i]?=some v->¬iS v)(h:aN π c (fp kind p v l r d s)):∃l' r',c=fp kind p v l' r' d s/\mi π l' l/\mi π r' r:=by
 have g:∀i x,(fp kind p v l r d s)[i]?=some x->∃y,c[i]?=some y/\av π y x:=fun i x e=>by rcases h.get? i with⟨-,e1⟩|⟨x1,y,e1,e2,e3⟩;{rw[e]at e1;cases e1};.rw[e]at e2;cases e2;exact⟨x1,e1,e3⟩
 have hp:∀{o:Option al}{y:ab},¬iS y->av π y (.pointer o)->∃o',y= .pointer o'/\mi π o' o:=fun{o y}hn hv=>by cases hv with|eL _=>exact absurd ⟨_,rfl⟩ hn|fJ=>exact⟨none,rfl, .inl ⟨rfl,rfl⟩⟩|pointer ha=>exact⟨_,rfl, .inr ⟨_,_,rfl,rfl,ha⟩⟩
 obtain⟨y0,e0,h0⟩:=g 0 _ rfl;obtain⟨y1,e1,h1⟩:=g 1 _ rfl;obtain⟨y2,e2,h2⟩:=g 2 _ rfl;obtain⟨y3,e3,h3⟩:=g 3 _ rfl;obtain⟨y4,bj,h4⟩:=g 4 _ rfl;obtain⟨qw,e5,h5⟩:=g 5 _ rfl;obtain⟨y6,e6,h6⟩:=g 6 _ rfl;obtain⟨l',rfl,hl⟩:=hp (hj 3 _ e3) h3;obtain⟨r',rfl,hr⟩:=hp (hj 4 _ bj) h4;have n0:=hj 0 _ e0;have cy:=hj 1 _ e1;have n2:=hj 2 _ e2;have n5:=hj 5 _ e5;have n6:=hj 6 _ e6;cases h0<;>first|exact absurd ⟨_,rfl⟩ n0|skip
 cases h1<;>first|exact absurd ⟨_,rfl⟩ cy|skip
 cases h2<;>first|exact absurd ⟨_,rfl⟩ n2|skip
 cases h5<;>first|exact absurd ⟨_,rfl⟩ n5|skip
 cases h6<;>first|exact absurd ⟨_,rfl⟩ n6|skip
 refine⟨l',r',rM fun i=>?_,hl,hr⟩;rcases i with _|_|_|_|_|_|_|i;{exact e0};{exact e1};{exact e2};{exact e3};{exact bj};{exact e5};{exact e6};.have hs:c.size=7:=h.1;rw[gi (by omega)];simp[fp]
theorem vn(W:bz π u w){b b':Nat}(e:π b=some b'){kind:Int}{p v:ByteArray}{l r:Option al}{d:Int}{s:Bool}(h:aP nt u b kind p v l r d s):∃l' r',aP nt w b' kind p v l' r' d s/\mi π l l'/\mi π r r':=by obtain⟨o,o',h1,h2,h3,-⟩:=W.obj b b' e;obtain⟨az,h⟩:=h;rw[h]at h1;cases h1;(cases o'<;>simp only[dp]at h3<;>first|exact h3.elim|skip);obtain⟨h3,rfl⟩:=h3;obtain⟨l',r',rfl,hl,hr⟩:=acj h3;exact⟨l',r',⟨_,h2⟩,hl,hr⟩
theorem FP(W:bz π u w){b b':Nat}(hj:nF u b)(e:π b=some b'){kind:Int}{p v:ByteArray}{l r:Option al}{d:Int}{s:Bool}(h:aP nt w b' kind p v l r d s):∃l' r',aP nt u b kind p v l' r' d s/\mi π l' l/\mi π r' r:=by obtain⟨o,o',h1,h2,h3,-⟩:=W.obj b b' e;obtain⟨az,h⟩:=h;rw[h]at h2;cases h2;(cases o<;>simp only[dp]at h3<;>first|exact h3.elim|skip);obtain⟨h3,rfl⟩:=h3;obtain⟨l',r',rfl,hl,hr⟩:=ack (fun i v e=>hj i v _ _ _ h1 e) h3;exact⟨l',r',⟨_,h1⟩,hl,hr⟩
omit[Env]in theorem vo{b:Nat}{kind:Int}{p v:ByteArray}{l r:Option al}{d:Int}{s:Bool}(h:aP nt u b kind p v l r d s):nF u b:=by obtain⟨az,e⟩:=h;intro i x c t f e1 e2;rw[e]at e1;cases e1;rcases i with _|_|_|_|_|_|_|i;{cases e2;rintro⟨_,e⟩;cases e};{cases e2;rintro⟨_,e⟩;cases e};{cases e2;rintro⟨_,e⟩;cases e};{cases e2;rintro⟨_,e⟩;cases e};{cases e2;rintro⟨_,e⟩;cases e};{cases e2;rintro⟨_,e⟩;cases e};{cases e2;rintro⟨_,e⟩;cases e};.rw[gi (by simp[fp])]at e2;cases e2
omit[Env]in theorem Bu{R:Nat->Prop}:∀{t:aH}{b:Nat},bC nt dg R u t b->bC nt dg (nF u) u t b| .branch _ _ _,_,⟨_,bl,br,h2,h3,h4⟩=>⟨vo h2,bl,br,h2,Bu h3,Bu h4⟩| .empty,_,⟨_,h2⟩=>⟨vo h2,h2⟩| .leaf _ _,_,⟨_,h2⟩=>⟨vo h2,h2⟩
omit[Env]in theorem Fp{R:Nat->Prop}:∀{t:aH}{b:Nat},aX nt dg R u t b->aX nt dg (nF u) u t b| .branch _ _ _,_,⟨_,bl,br,d,s,h2,h3,h4,h5⟩=>⟨vo h2,bl,br,d,s,h2,Fp h3,Fp h4,fun x=>⟨(h5 x).1,Bu (h5 x).2.1,Bu (h5 x).2.2⟩⟩| .empty,_,⟨_,d,s,h2,h3⟩=>⟨vo h2,d,s,h2,h3⟩| .leaf _ _,_,⟨_,d,s,h2,h3⟩=>⟨vo h2,d,s,h2,h3⟩
theorem Bv{R:Nat->Prop}(W:bz π u w):∀{t:aH}{b b':Nat},π b=some b'->bC nt dg R u t b->bC nt dg (fun y=>∃x,π x=some y/\R x) w t b'| .branch _ _ _,b,b',e,⟨hb,bl,br,h2,h3,h4⟩=>by obtain⟨l',r',h5,hl,hr⟩:=vn W e h2;obtain⟨FQ,rfl,el⟩:=x8 hl;obtain⟨yr,rfl,er⟩:=x8 hr;exact⟨⟨b,e,hb⟩,FQ,yr,h5,Bv W el h3,Bv W er h4⟩| .empty,b,b',e,⟨hb,h2⟩=>by obtain⟨l',r',h5,hl,hr⟩:=vn W e h2;rw[rE hl,rE hr]at h5;exact⟨⟨b,e,hb⟩,h5⟩| .leaf _ _,b,b',e,⟨hb,h2⟩=>by obtain⟨l',r',h5,hl,hr⟩:=vn W e h2;rw[rE hl,rE hr]at h5;exact⟨⟨b,e,hb⟩,h5⟩
theorem Fo{R:Nat->Prop}(W:bz π u w):∀{t:aH}{b b':Nat},π b=some b'->aX nt dg R u t b->aX nt dg (fun y=>∃x,π x=some y/\R x) w t b'| .branch _ _ _,b,b',e,⟨hb,bl,br,d,s,h2,h3,h4,h5⟩=>by obtain⟨l',r',h6,hl,hr⟩:=vn W e h2;obtain⟨FQ,rfl,el⟩:=x8 hl;obtain⟨yr,rfl,er⟩:=x8 hr;exact⟨⟨b,e,hb⟩,FQ,yr,d,s,h6,Fo W el h3,Fo W er h4,fun x=>⟨(h5 x).1,Bv W el (h5 x).2.1,Bv W er (h5 x).2.2⟩⟩| .empty,b,b',e,⟨hb,d,s,h2,h3⟩=>by obtain⟨l',r',h5,hl,hr⟩:=vn W e h2;rw[rE hl,rE hr]at h5;exact⟨⟨b,e,hb⟩,d,s,h5,h3⟩| .leaf _ _,b,b',e,⟨hb,d,s,h2,h3⟩=>by obtain⟨l',r',h5,hl,hr⟩:=vn W e h2;rw[rE hl,rE hr]at h5;exact⟨⟨b,e,hb⟩,d,s,h5,h3⟩
noncomputable def inv(π:Ren)(u w:aa)(y:Nat):Nat:=open Classical in if y<w.heap.size then(if h:∃b,π b=some y then h.choose else 0)else u.heap.size+(y-w.heap.size)
noncomputable def FR(π:Ren)(u w:aa):ab->ab| .pointer (some a)=> .pointer (some ⟨inv π u w a.block,a.off,a.spot⟩)|v=>v
noncomputable def NY(π:Ren)(u w:aa):Option Obj->Obj|some (.cells c t f)=> .cells (c.map (FR π u w)) t f|_=> .cells #[] 0 (0,0)
noncomputable def made(π:Ren)(u w w':aa):aa:={u with heap:=u.heap++(Array.range (w'.heap.size-w.heap.size)).map fun j=>NY π u w w'.heap[w.heap.size+j]?}
def FT(nt:aq)(dg:Int->ByteArray->ByteArray->Int->Int->Int)(R:Nat->Prop)(w w':aa)(y:Nat):Prop:=w.heap.size<=y/\∃t,bC nt dg R w' t y
noncomputable def wider(nt:aq)(dg:Int->ByteArray->ByteArray->Int->Int->Int)(R:Nat->Prop)(π:Ren)(u w w':aa):Ren:=open Classical in fun b=>if b<u.heap.size then π b else if FT nt dg R w w' (w.heap.size+(b-u.heap.size))then some (w.heap.size+(b-u.heap.size))else none
omit[Env]in theorem x9{w':aa}{b:Nat}(h:b<u.heap.size):(made π u w w').heap[b]?=u.heap[b]?:=by unfold made;rw[Array.getElem?_append_left h]
omit[Env]in theorem aar{w':aa}:(made π u w w').heap.size=u.heap.size+(w'.heap.size-w.heap.size):=by simp[made]
omit[Env]in theorem NZ{w':aa}{y:Nat}(h:w.heap.size<=y)(h2:y<w'.heap.size):(made π u w w').heap[u.heap.size+(y-w.heap.size)]?=some (NY π u w w'.heap[y]?):=by
 unfold made;rw[Array.getElem?_append_right (by omega)];have e1:u.heap.size+(y-w.heap.size)-u.heap.size=y-w.heap.size:=by omega
 have e2:w.heap.size+(y-w.heap.size)=y:=by omega
 rw[e1];simp only[qd];rw[gk (by simp;omega)];simp[e2]
theorem FU(W:bz π u w){x y:Nat}(h:π x=some y):inv π u w y=x:=by have hy:=(W.size h).2;unfold inv;rw[if_pos hy,dif_pos ⟨x,h⟩];exact W.inj _ _ _ (Exists.choose_spec (p:=fun b=>π b=some y) ⟨x,h⟩) h
theorem Ba(W:bz π u w){R:Nat->Prop}{w':aa}:π.le (wider nt dg R π u w w'):=fun a b h=>by unfold wider;rw[if_pos (W.size h).1];exact h
omit[Env]in theorem acm{R:Nat->Prop}{w':aa}{y:Nat}(h:FT nt dg R w w' y):wider nt dg R π u w w' (inv π u w y)=some y:=by have h1:=h.1;unfold wider inv;rw[if_neg (show¬y<w.heap.size by omega),if_neg (by omega)];(have e:w.heap.size+(u.heap.size+(y-w.heap.size)-u.heap.size)=y:=by omega);rw[e,if_pos h]
omit[Env]in theorem N0{R:Nat->Prop}{t:aH}{y:Nat}(h:bC nt dg R w t y):y<w.heap.size:=by have key:∀{kind:Int}{p v:ByteArray}{l r:Option al}{d:Int}{s:Bool},aP nt w y kind p v l r d s->y<w.heap.size:=fun⟨_,e⟩=>(dJ.1 e).1;cases t with|branch p l r=>exact key h.2.choose_spec.choose_spec.1|empty=>exact key h.2|leaf p v=>exact key h.2
section
variable{R:Nat->Prop}{w':aa}(hR:∀y,R y->y<w.heap.size->∃x,π x=some y/\nF u x)
include hR
theorem sU(W:bz π u w){t:aH}{y:Nat}(h:bC nt dg R w' t y):wider nt dg R π u w w' (inv π u w y)=some y:=by by_cases hy:y<w.heap.size;{obtain⟨x,hx,-⟩:=hR y (by cases t<;>exact h.1) hy;rw[FU W hx];exact Ba W _ _ hx};.exact acm ⟨by omega,t,h⟩
theorem M3(W:bz π u w){t:aH}{y:Nat}(h:bC nt dg R w' t y):uu (inv π u w y) y:=by by_cases hy:y<w.heap.size;{obtain⟨x,hx,-⟩:=hR y (by cases t<;>exact h.1) hy;rw[FU W hx];exact W.aC _ _ hx};.have:=W.xc;unfold inv;rw[if_neg hy];exact .inr ⟨by omega,by omega⟩
theorem aaq(W:bz π u w)(hs:∀b,¬Env.bZ b)(hsz:w.heap.size<=w'.heap.size)(hsh:∀b s,w.shape? b=some s->w'.shape? b=some s)(hold:∀x y o,π x=some y->dB ⟨y,o,none⟩ w w')(hos:w'.os=w.os):bz (wider nt dg R π u w w') (made π u w w') w':=by have W1:bz π u w':=W.rely (fun b b' o hb=>hold b b' o hb) hos hsz hsh;(have hw:∀a y,wider nt dg R π u w w' a=some y->(a<u.heap.size/\π a=some y)\/(u.heap.size<=a/\y=w.heap.size+(a-u.heap.size)/\FT nt dg R w w' y):=fun a y h=>by unfold wider at h;split at h;{exact .inl ⟨by assumption,h⟩};.split at h;{rename_i h2;cases h;exact .inr ⟨by omega,rfl,h2⟩};.cases h);refine⟨fun a b y ha hb=>?_,fun b y hb=>?_,W1.os,fun b hb=>absurd hb (hs b),fun b hb=>?_,fun b c t f hb=>absurd hb (hs b),fun g hg=>Ba W _ _ (W.ef g hg),fun g hg=>?_,fun b y hb=>?_,W1.uv⟩;{rcases hw a y ha with⟨h1,h2⟩|⟨h1,h2,h3⟩<;>rcases hw b y hb with⟨h4,h5⟩|⟨h4,h5,h6⟩;{exact W.inj _ _ _ h2 h5};{have:=(W.size h2).2;have:=h6.1;omega};{have:=(W.size h5).2;have:=h3.1;omega};.omega};{rcases hw b y hb with⟨h1,h2⟩|⟨h1,h2,h3⟩;{obtain⟨o,o',e1,e2,e3,bj⟩:=W1.obj b y h2;exact⟨o,o',(x9 h1).trans e1,e2,e3.mono (Ba W),bj⟩};.obtain⟨h4,t,hS⟩:=h3;have hlt:=N0 hS;(have eb:b=u.heap.size+(y-w.heap.size):=by omega);have hm:=NZ (π:=π) (u:=u) h4 hlt;rw[<-eb]at hm;(have key:∀{kind:Int}{p v:ByteArray}{l r:Option al}{d:Int}{s:Bool},aP nt w' y kind p v l r d s->(∀q,l=some q->∃z t',q=⟨z,0,none⟩/\bC nt dg R w' t' z)->(∀q,r=some q->∃z t',q=⟨z,0,none⟩/\bC nt dg R w' t' z)->∃o o',(made π u w w').heap[b]?=some o/\w'.heap[y]?=some o'/\dp (wider nt dg R π u w w') o o'/\xa b (ig o') (ig o):=by rintro kind p v l r d s ⟨az,e⟩hl hr;rw[e]at hm;refine⟨_,_,hm,e,⟨.lQ (by simp) fun i x x' ex qb=>?_,rfl⟩, .inl rfl⟩;rw[qd,qb]at ex;simp only[iy,Option.some.injEq]at ex;subst ex;(have hi:i<7:=by have:=(dJ.1 qb).1;simpa[fp]using this);(have N3:∀o:Option al,(∀q,o=some q->∃z t',q=⟨z,0,none⟩/\bC nt dg R w' t' z)->av (wider nt dg R π u w w') (FR π u w (.pointer o)) (.pointer o):=fun o ho=>by cases o with|none=>exact .fJ|some q=>obtain⟨z,t',rfl,hz⟩:=ho q rfl;exact .pointer ⟨sU hR W hz,rfl,rfl,M3 hR W hz⟩);rcases i with _|_|_|_|_|_|_|i;{cases qb;exact .int _ _};{cases qb;exact .string _};{cases qb;exact .string _};{cases qb;exact N3 l hl};{cases qb;exact N3 r hr};{cases qb;exact .int _ _};{cases qb;exact .bool _};.omega);cases t with|branch p tl aM=>obtain⟨_,bl,br,g1,g2,g3⟩:=hS;exact key g1 (fun q e=>by cases e;exact⟨bl,tl,rfl,g2⟩) (fun q e=>by cases e;exact⟨br,aM,rfl,g3⟩)|empty=>exact key hS.2 (fun q e=>by cases e) (fun q e=>by cases e)|leaf p v=>exact key hS.2 (fun q e=>by cases e) (fun q e=>by cases e)};{have h1:=W.xc;(have h2:b<u.heap.size:=by omega);(have h3:b<w'.heap.size:=by omega);exact⟨⟨_,(x9 h2).trans (gk h2)⟩,_,gk h3⟩};{obtain⟨d1,d2⟩:=W.gG g hg;have hlt:=(dJ.1 d1).1;refine⟨(x9 hlt).trans d1, ?_⟩;unfold wider;rw[if_pos hlt];exact d2};.rcases hw b y hb with⟨-,h2⟩|⟨h1,h2,h3⟩;{exact W.aC _ _ h2};.have:=W.xc;exact .inr ⟨by omega,by omega⟩
theorem FV(W:bz π u w){t:aH}{y:Nat}(h:bC nt dg R w' t y):nF (made π u w w') (inv π u w y):=by by_cases hy:y<w.heap.size;{obtain⟨x,hx,hp⟩:=hR y (by cases t<;>exact h.1) hy;rw[FU W hx];intro i v c t f e;rw[x9 (W.size hx).1]at e;exact hp i v c t f e};.have hm:=NZ (π:=π) (u:=u) (Nat.not_lt.1 hy) (N0 h);(have e0:inv π u w y=u.heap.size+(y-w.heap.size):=by unfold inv;rw[if_neg hy]);(have key:∀{kind:Int}{p v:ByteArray}{l r:Option al}{d:Int}{s:Bool},aP nt w' y kind p v l r d s->nF (made π u w w') (inv π u w y):=by rintro kind p v l r d s ⟨az,e⟩i x c t' f e1 e2;rw[e0,hm,e]at e1;cases e1;rw[qd]at e2;(have hb:∀o:Option al,∃o',FR π u w (.pointer o)= .pointer o':=fun o=>by cases o<;>exact⟨_,rfl⟩);rcases i with _|_|_|_|_|_|_|i;{cases e2;rintro⟨_,e⟩;cases e};{cases e2;rintro⟨_,e⟩;cases e};{cases e2;rintro⟨_,e⟩;cases e};{obtain⟨o',eo⟩:=hb l;rw[show(fp kind p v l r d s)[3]?=some (.pointer l)from rfl,iy,eo]at e2;cases e2;rintro⟨_,e⟩;cases e};{obtain⟨o',eo⟩:=hb r;rw[show(fp kind p v l r d s)[4]?=some (.pointer r)from rfl,iy,eo]at e2;cases e2;rintro⟨_,e⟩;cases e};{cases e2;rintro⟨_,e⟩;cases e};{cases e2;rintro⟨_,e⟩;cases e};.rw[gi (by simp[fp])]at e2;cases e2);cases t with|branch p tl aM=>obtain⟨_,bl,br,g1,g2,g3⟩:=h;exact key g1|empty=>exact key h.2|leaf p v=>exact key h.2
theorem Fq(W':bz (wider nt dg R π u w w') (made π u w w') w')(W:bz π u w):∀{t:aH}{y:Nat},bC nt dg R w' t y->bC nt dg (fun _=>True) (made π u w w') t (inv π u w y)| .branch _ _ _,y,h=>by have e:=sU hR W h;have hh:=h;obtain⟨_,bl,br,h2,h3,h4⟩:=h;obtain⟨l',r',h5,hl,hr⟩:=FP W' (FV hR W hh) e h2;obtain⟨xl,rfl,el⟩:=NX hl;obtain⟨xr,rfl,er⟩:=NX hr;have e1:xl=inv π u w bl:=W'.inj _ _ _ el (sU hR W h3);have e2:xr=inv π u w br:=W'.inj _ _ _ er (sU hR W h4);subst e1 e2;exact⟨trivial,_,_,h5,Fq W' W h3,Fq W' W h4⟩| .empty,y,h=>by obtain⟨l',r',h5,hl,hr⟩:=FP W' (FV hR W h) (sU hR W h) h.2;rw[Bt hl,Bt hr]at h5;exact⟨trivial,h5⟩| .leaf _ _,y,h=>by obtain⟨l',r',h5,hl,hr⟩:=FP W' (FV hR W h) (sU hR W h) h.2;rw[Bt hl,Bt hr]at h5;exact⟨trivial,h5⟩
