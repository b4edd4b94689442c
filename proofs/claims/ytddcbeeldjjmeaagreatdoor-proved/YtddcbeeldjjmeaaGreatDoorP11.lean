/- TREES OF BITS, AS PLAIN. -/
import Init
import Derived.Test.YtddcbeeldjjmeaaGreatDoorP8
set_option linter.unusedVariables false
open Bool renaming false_eq_true->ez,toNat_false->F4,toNat_true->F3
open List renaming append_assoc->dS,append_cancel_left_eq->vq,append_nil->jQ,cons_append->eI,drop_left->rH,exists_mem_of_ne_nil->N8,extract_eq_take_drop->Ob,filter_append->N9,filter_cons_of_neg->acv,filter_cons_of_pos->acu,filter_eq_nil_iff->acr,filter_eq_self->FY,getElem?_cons_succ->rJ,length->rI,length_cons->fj,length_pos_iff->FZ,map_append->mP,map_inj_right->acs,mem_append->nJ,mem_append_left->nL,mem_append_right->pj,mem_cons->cJ,mem_cons_of_mem->fB,mem_cons_self->dE,mem_map->cH,mem_singleton->BC,nil_append->jP,pairwise_cons->rK
open List.cons renaming injEq->kr
open Nat renaming lt_irrefl->lH,one_mul->F5,zero_mul->BD
open Ne renaming symm->dq
namespace Go.cP
abbrev Bits:=List Bool
inductive T(V:Type)where
 |empty
 |leaf(p:Bits)(v:V)
 |branch(p:Bits)(l r:T V)
def share:Bits->Bits->Nat|a::as,b::bs=>if a=b then share as bs+1 else 0|_,_=>0
variable{V:Type}
def T.path:T V->Bits| .empty=>[]| .leaf p _=>p| .branch p _ _=>p
def T.fP(q:Bits):T V->T V| .empty=> .empty| .leaf _ v=> .leaf q v| .branch _ l r=> .branch q l r
def fork(p:Bits)(s:Bool)(there other:T V):T V:=if s then .branch p other there else .branch p there other
def tE(t:T V)(c:Nat)(b:Bits)(v:V):T V:=match b.drop c with|[]=> .empty|s::rest=>fork (b.take c) s (.leaf rest v) (t.fP (t.path.drop (c+1)))
def T.jr:T V->Bits->V->T V| .empty,b,v=> .leaf b v| .leaf p x,b,v=>if share p b<p.length then tE (.leaf p x) (share p b) b v else .leaf b v| .branch p l r,b,v=>if share p b<p.length then tE (.branch p l r) (share p b) b v else match b.drop p.length with|[]=> .empty|true::rest=> .branch p l (r.jr rest v)|false::rest=> .branch p (l.jr rest v) r
def T.isEmpty:T V->Bool| .empty=>true|_=>false
def T.fZ:T V->Bits->T V| .empty,_=> .empty| .leaf _ _,_=> .empty| .branch p l r,b=>match b.drop p.length with|[]=> .empty|true::rest=>let below:=r.fZ rest;if below.isEmpty then l.fP (p++[false]++l.path)else .branch p l below|false::rest=>let below:=l.fZ rest;if below.isEmpty then r.fP (p++[true]++r.path)else .branch p below r
def T.get:T V->Bits->Option V| .empty,_=>none| .leaf p v,b=>if p=b then some v else none| .branch p l r,b=>if p<+:b then(match b.drop p.length with|[]=>none|true::rest=>r.get rest|false::rest=>l.get rest)else none
def T.walk(above:Bits):T V->List (Bits×V)| .empty=>[]| .leaf p v=>[(above++p,v)]| .branch p l r=>l.walk (above++p++[false])++r.walk (above++p++[true])
def pre(q:Bits)(x:Bits×V):Bits×V:=(q++x.1,x.2)
theorem Qh(q r:Bits):(pre q∘pre r:Bits×V->Bits×V)=pre (q++r):=by funext x;simp[pre]
theorem vV(q r:Bits)(l:List (Bits×V)):(l.map (pre r)).map (pre q)=l.map (pre (q++r)):=by rw[List.map_map,Qh]
theorem pre_nil(l:List (Bits×V)):l.map (pre [])=l:=by(have:(pre []:Bits×V->Bits×V)=id:=by funext x;simp[pre]);rw[this,List.map_id]
inductive cQ:List (Bits×V)->T V->Prop
 |empty:cQ [] .empty
 |leaf(p:Bits)(v:V):cQ [(p,v)] (.leaf p v)
 |branch{l0 l1:List (Bits×V)}{t0 t1:T V}(p:Bits):l0≠[]->l1≠[]->cQ l0 t0->cQ l1 t1->cQ (l0.map (pre (p++[false]))++l1.map (pre (p++[true]))) (.branch p t0 t1)
theorem Ht{l:List (Bits×V)}{t:T V}(h:cQ l t):l=[]↔t= .empty:=by cases h with|empty=>simp|leaf p v=>simp|branch p h0 h1 _ _=>simp[h0]
theorem pD{l:List (Bits×V)}{t:T V}(h:cQ l t):t.isEmpty=true↔l=[]:=by rw[Ht h];cases t<;>simp[T.isEmpty]
theorem Hu{l:List (Bits×V)}{t:T V}(h:cQ l t)(hl:l≠[])(q:Bits):cQ (l.map (pre q)) (t.fP (q++t.path)):=by cases h with|empty=>exact absurd rfl hl|leaf p v=>exact .leaf _ _|@branch l0 l1 t0 t1 p h0 h1 a b=>have:=cQ.branch (q++p) h0 h1 a b;rw[mP,vV,vV,<-dS,<-dS];exact this
def blt:Bits->Bits->Bool|[],[]=>false|[],_::_=>true|_::_,[]=>false|a::as,b::bs=>if a=b then blt as bs else !a
def ins(b:Bits)(v:V):List (Bits×V)->List (Bits×V)|[]=>[(b,v)]|x::l=>if b=x.1 then(b,v)::l else if blt b x.1 then(b,v)::x::l else x::ins b v l
def del(b:Bits)(l:List (Bits×V)):List (Bits×V):=l.filter fun x=>x.1 !=b
def look(b:Bits):List (Bits×V)->Option V|[]=>none|x::l=>if x.1=b then some x.2 else look b l
theorem Cr(q a b:Bits):blt (q++a) (q++b)=blt a b:=by induction q with|nil=>rfl|cons x q ih=>simp[blt,ih]
theorem Hv(q b:Bits)(v:V)(l:List (Bits×V)):ins (q++b) v (l.map (pre q))=(ins b v l).map (pre q):=by induction l with|nil=>rfl|cons x l ih=>simp only[List.map_cons,ins,pre,vq,Cr];split;{rfl};.split;{rfl};.rw[ih];rfl
theorem Hw{b:Bits}{v:V}{A B:List (Bits×V)}(h:∀x,x∈A->b≠x.1/\blt b x.1=false):ins b v (A++B)=A++ins b v B:=by induction A with|nil=>rfl|cons x A ih=>have hx:=h x dE;simp only[eI,ins,if_neg hx.1,hx.2,ez,if_false];rw[ih fun y hy=>h y (fB _ hy)]
theorem Hx{b:Bits}{v:V}{A B:List (Bits×V)}(h:∀x,x∈B->b≠x.1/\blt b x.1=true):ins b v (A++B)=ins b v A++B:=by induction A with|nil=>(cases B with|nil=>rfl|cons x B=>have hx:=h x dE;simp only[jP,ins,if_neg hx.1,hx.2,if_true];rfl)|cons x A ih=>simp only[eI,ins];split;{rfl};.split;{rfl};.rw[ih];rfl
theorem Hy(b:Bits)(A B:List (Bits×V)):del b (A++B)=del b A++del b B:=by simp[del]
theorem Hz(q b:Bits)(l:List (Bits×V)):del (q++b) (l.map (pre q))=(del b l).map (pre q):=by unfold del;rw[List.filter_map];congr 1;refine List.filter_congr fun x _=>?_;show((q++x.1)!=(q++b))=(x.1 !=b);rw[Bool.eq_iff_iff];simp
theorem Qi{b:Bits}{l:List (Bits×V)}(h:∀x,x∈l->x.1≠b):del b l=l:=by unfold del;rw[FY];intro x hx;simp[h x hx]
theorem HI(b:Bits)(A B:List (Bits×V)):look b (A++B)=(look b A).or (look b B):=by induction A with|nil=>simp[look]|cons x A ih=>simp only[eI,look];split;{simp};.exact ih
theorem HV(q b:Bits)(l:List (Bits×V)):look (q++b) (l.map (pre q))=look b l:=by induction l with|nil=>rfl|cons x l ih=>simp[look,pre,ih]
theorem tF{b:Bits}{l:List (Bits×V)}(h:∀x,x∈l->x.1≠b):look b l=none:=by induction l with|nil=>rfl|cons x l ih=>simp only[look,if_neg (h x dE)];exact ih fun y hy=>h y (fB _ hy)
def Apart(a b:Bits):Prop:=a=b\/∃q s x y,a=q++s::x/\b=q++(!s)::y
theorem Apart.pre{q a b:Bits}(h:Apart (q++a) (q++b)):Apart a b:=by induction q with|nil=>exact h|cons c q ih=>refine ih ?_;rcases h with h|⟨r,s,x,y,e1,e2⟩;{simp only[eI,kr,true_and]at h;exact .inl h};.cases r with|nil=>simp only[eI,jP,kr]at e1 e2;have h1:=e1.1.symm.trans e2.1;cases s<;>cases h1|cons d r=>simp only[eI,kr]at e1 e2;exact .inr ⟨r,s,x,y,e1.2,e2.2⟩
theorem tG(p x:Bits):share p (p++x)=p.length:=by induction p with|nil=>cases x<;>rfl|cons a p ih=>simp[share,ih]
theorem zh(q:Bits)(s:Bool)(x y:Bits):share (q++(!s)::x) (q++s::y)=q.length:=by induction q with|nil=>cases s<;>simp[share]|cons a q ih=>simp[share,ih]
theorem qA(p b:Bits):(∃x,b=p++x)\/(∃q s x y,p=q++(!s)::x/\b=q++s::y)\/∃s x,p=b++s::x:=by induction p generalizing b with|nil=>exact .inl ⟨b,rfl⟩|cons a p ih=>cases b with|nil=>exact .inr (.inr ⟨a,p,rfl⟩)|cons c b=>by_cases h:a=c;{subst h;rcases ih b with⟨x,rfl⟩|⟨q,s,x,y,rfl,rfl⟩|⟨s,x,rfl⟩;{exact .inl ⟨x,rfl⟩};{exact .inr (.inl ⟨a::q,s,x,y,rfl,rfl⟩)};.exact .inr (.inr ⟨s,x,rfl⟩)};.refine .inr (.inl ⟨[],c,p,b, ?_,rfl⟩);(have:a=!c:=by cases a<;>cases c<;>simp_all);rw[this];rfl
theorem zi(q:Bits)(s:Bool)(x y:Bits):blt (q++s::x) (q++(!s)::y)=!s:=by rw[Cr];cases s<;>rfl
theorem zj(q:Bits)(s:Bool)(x y:Bits):q++s::x≠q++(!s)::y:=by intro h;rw[vq,kr]at h;cases s<;>cases h.1
variable{V:Type}
theorem Cs{l:List (Bits×V)}{t:T V}(h:cQ l t):∀x,x∈l->∃y,x.1=t.path++y:=by cases h with|empty=>intro x hx;cases hx|leaf p v=>intro x hx;rw[BC]at hx;subst hx;exact⟨[],by simp[T.path]⟩|branch p _ _ _ _=>intro x hx;rcases nJ.1 hx with hx|hx<;>obtain⟨y,_,rfl⟩:=cH.1 hx;{exact⟨false::y.1,by simp[pre,T.path]⟩};.exact⟨true::y.1,by simp[pre,T.path]⟩
theorem tH{l:List (Bits×V)}{t:T V}(h:cQ l t)(hl:l≠[]):∃x,x∈l:=by cases l with|nil=>exact absurd rfl hl|cons x l=>exact⟨x,dE⟩
theorem ins_ne(b:Bits)(v:V)(l:List (Bits×V)):ins b v l≠[]:=by cases l with|nil=>simp[ins]|cons z l=>unfold ins;by_cases h1:b=z.1;{rw[if_pos h1];simp};.rw[if_neg h1];by_cases h2:blt b z.1=true;{rw[if_pos h2];simp};.rw[if_neg h2];simp
theorem H0(p b:Bits)(s:Bool)(l:List (Bits×V)):del (p++s::b) (l.map (pre (p++[!s])))=l.map (pre (p++[!s])):=Qi fun y hy=>by obtain⟨y,_,rfl⟩:=cH.1 hy;simp only[pre,dS,eI,jP,ne_eq,vq,kr,not_and];intro h;cases s<;>cases h
theorem H3{l:List (Bits×V)}{t:T V}(h:cQ l t)(hl:l≠[]){q:Bits}{s:Bool}{x y:Bits}{v:V}(hp:t.path=q++(!s)::x):cQ (ins (q++s::y) v l) (tE t q.length (q++s::y) v):=by
 have hm:∀z,z∈l->∃r,z.1=q++(!s)::r:=fun z hz=>by obtain⟨r,e⟩:=Cs h z hz;exact⟨x++r,by rw[e,hp];simp⟩
 have hcut:t.path.drop (q.length+1)=x:=by rw[hp,show q++(!s)::x=(q++[!s])++x by simp,show q.length+1=(q++[!s]).length by simp,rH]
 have Qj:∃l',l=l'.map (pre (q++[!s]))/\l'≠[]/\cQ l' (t.fP x):=by cases h with|empty=>exact absurd rfl hl|leaf p w=>simp only[T.path]at hp;subst hp;exact⟨[(x,w)],by simp[pre],by simp, .leaf _ _⟩|@branch l0 l1 t0 t1 p h0 h1 a b=>simp only[T.path]at hp;subst hp;refine⟨_, ?_, ?_, .branch x h0 h1 a b⟩;{rw[mP,vV,vV];simp};.simp[h0]
 obtain⟨l',rfl,hl',hr⟩:=Qj;unfold tE;rw[rH,List.take_left,hcut];cases s with|true=>(have e:ins (q++true::y) v (l'.map (pre (q++[false])))=l'.map (pre (q++[false]))++[(y,v)].map (pre (q++[true])):=by(have:=Hw (b:=q++true::y) (v:=v) (A:=l'.map (pre (q++[!true]))) (B:=[]) fun z hz=>by obtain⟨r,e⟩:=hm z hz;rw[e];exact⟨zj q true y r,zi q true y r⟩);rw[jQ]at this;rw[show(q++[false])=q++[!true]from rfl,this];simp[ins,pre]);rw[show q++[!true]=q++[false]from rfl,e];simp only[fork,if_true];exact .branch q hl' (by simp) hr (.leaf _ _)|false=>(have e:ins (q++false::y) v (l'.map (pre (q++[true])))=[(y,v)].map (pre (q++[false]))++l'.map (pre (q++[true])):=by(have:=Hx (b:=q++false::y) (v:=v) (A:=[]) (B:=l'.map (pre (q++[!false]))) fun z hz=>by obtain⟨r,e⟩:=hm z hz;rw[e];exact⟨zj q false y r,zi q false y r⟩);rw[jP]at this;rw[show(q++[true])=q++[!false]from rfl,this];simp[ins,pre]);rw[show q++[!false]=q++[true]from rfl,e];simp only[fork,ez,if_false];exact .branch q (by simp) hl' (.leaf _ _) hr
theorem H4{p b:Bits}{e:Bits}(h:Apart b (p++e)):(∃x,b=p++x)\/∃q s x y,p=q++(!s)::x/\b=q++s::y:=by rcases qA p b with h1|h1|⟨s,x,rfl⟩;{exact .inl h1};{exact .inr h1};.exfalso;rcases h with h|⟨q,s',y,z,e1,e2⟩;{have:=congrArg rI h;simp at this};.rw[e1]at e2;simp only[dS,eI,vq,kr]at e2;cases s'<;>cases e2.1
theorem Qk{l:List (Bits×V)}{t:T V}(h:cQ l t):∀(b:Bits)(v:V),(∀x,x∈l->Apart b x.1)->cQ (ins b v l) (t.jr b v):=by induction h with|empty=>exact fun b v _=> .leaf b v|leaf p w=>intro b v ah;have h1:=ah (p,w) dE;rcases h1 with rfl|⟨q,s,x,y,rfl,rfl⟩;{(have e:share b b=b.length:=by have:=tG b [];rwa[jQ]at this);simp only[T.jr,e,lH,if_false,ins,if_true];exact .leaf _ _};.have e:=zh q s y x;(have hlt:q.length<(q++(!s)::y).length:=by simp);simp only[T.jr,e,if_pos hlt];exact H3 (.leaf _ w) (by simp) rfl|@branch l0 l1 t0 t1 p h0 h1 a0 a1 pE ih1=>intro b v ah;obtain⟨z0,hz0⟩:=tH a0 h0;obtain⟨lf,hz1⟩:=tH a1 h1;(have hA0:∀x,x∈l0->Apart b (p++false::x.1):=fun x hx=>by have:=ah (pre (p++[false]) x) (nL _ (cH.2 ⟨x,hx,rfl⟩));simpa[pre]using this);(have hA1:∀x,x∈l1->Apart b (p++true::x.1):=fun x hx=>by have:=ah (pre (p++[true]) x) (pj _ (cH.2 ⟨x,hx,rfl⟩));simpa[pre]using this);rcases H4 (hA0 z0 hz0)with⟨x,rfl⟩|⟨q,s,x,y,rfl,rfl⟩;{cases x with|nil=>exfalso;rw[jQ]at hA0;rcases hA0 z0 hz0 with h|⟨q,s,x,y,e1,e2⟩;{have:=congrArg rI h;simp at this};.rw[e1]at e2;simp only[dS,eI,vq,kr]at e2;cases s<;>cases e2.1|cons s rest=>have e:=tG p (s::rest);simp only[T.jr,e,lH,if_false,rH];cases s with|true=>(have hr:∀z,z∈l1->Apart rest z.1:=fun z hz=>by have:=Apart.pre (hA1 z hz);exact Apart.pre (q:=[true]) this);(have e2:ins (p++true::rest) v (l0.map (pre (p++[false]))++l1.map (pre (p++[true])))=l0.map (pre (p++[false]))++(ins rest v l1).map (pre (p++[true])):=by rw[Hw fun z hz=>by obtain⟨z,hz,rfl⟩:=cH.1 hz;rw[show(pre (p++[false]) z).1=p++(!true)::z.1 by simp[pre]];exact⟨zj p true rest _,zi p true rest _⟩];rw[show p++true::rest=(p++[true])++rest by simp,Hv]);rw[e2];refine .branch p h0 ?_ a0 (ih1 rest v hr);exact ins_ne _ _ _|false=>(have hr:∀z,z∈l0->Apart rest z.1:=fun z hz=>by have:=Apart.pre (hA0 z hz);exact Apart.pre (q:=[false]) this);(have e2:ins (p++false::rest) v (l0.map (pre (p++[false]))++l1.map (pre (p++[true])))=(ins rest v l0).map (pre (p++[false]))++l1.map (pre (p++[true])):=by rw[Hx fun z hz=>by obtain⟨z,hz,rfl⟩:=cH.1 hz;rw[show(pre (p++[true]) z).1=p++(!false)::z.1 by simp[pre]];exact⟨zj p false rest _,zi p false rest _⟩];rw[show p++false::rest=(p++[false])++rest by simp,Hv]);rw[e2];refine .branch p ?_ h1 (pE rest v hr) a1;exact ins_ne _ _ _};.have e:=zh q s x y;(have hlt:q.length<(q++(!s)::x).length:=by simp);simp only[T.jr,e,if_pos hlt];exact H3 (.branch _ h0 h1 a0 a1) (by simp[h0]) rfl
theorem Ql{l:List (Bits×V)}{t:T V}(h:cQ l t):∀(b:Bits),(∃x,x∈l/\x.1=b)->cQ (del b l) (t.fZ b):=by induction h with|empty=>rintro b ⟨x,hx,-⟩;cases hx|leaf p w=>rintro b ⟨x,hx,rfl⟩;rw[BC]at hx;subst hx;simp only[T.fZ,del,List.filter_cons,List.filter_nil,bne_self_eq_false,ez,if_false];exact .empty|@branch l0 l1 t0 t1 p h0 h1 a0 a1 pE ih1=>rintro b ⟨x,hx,rfl⟩;rcases nJ.1 hx with hx|hx<;>obtain⟨z,hz,rfl⟩:=cH.1 hx;{(have e1:(pre (p++[false]) z).1=p++false::z.1:=by simp[pre]);(have e2:del (p++false::z.1) (l0.map (pre (p++[false]))++l1.map (pre (p++[true])))=(del z.1 l0).map (pre (p++[false]))++l1.map (pre (p++[true])):=by have h3:=H0 p z.1 false l1;rw[Hy,show(p++[true])=p++[!false]from rfl,h3,show p++false::z.1=(p++[false])++z.1 by simp,Hz]);have ih:=pE z.1 ⟨z,hz,rfl⟩;rw[e1,e2];simp only[T.fZ,rH];by_cases he:(t0.fZ z.1).isEmpty=true;{rw[if_pos he,(pD ih).1 he];exact Hu a1 h1 _};.rw[if_neg he];exact .branch p (fun e=>he ((pD ih).2 e)) h1 ih a1};. (have e1:(pre (p++[true]) z).1=p++true::z.1:=by simp[pre]);(have e2:del (p++true::z.1) (l0.map (pre (p++[false]))++l1.map (pre (p++[true])))=l0.map (pre (p++[false]))++(del z.1 l1).map (pre (p++[true])):=by have h3:=H0 p z.1 true l0;rw[Hy,show(p++[false])=p++[!true]from rfl,h3,show p++true::z.1=(p++[true])++z.1 by simp,Hz]);have ih:=ih1 z.1 ⟨z,hz,rfl⟩;rw[e1,e2];simp only[T.fZ,rH];by_cases he:(t1.fZ z.1).isEmpty=true;{rw[if_pos he,(pD ih).1 he,List.map_nil,jQ];exact Hu a0 h0 _};.rw[if_neg he];exact .branch p h0 (fun e=>he ((pD ih).2 e)) a0 ih
theorem vW{l:List (Bits×V)}{t:T V}(h:cQ l t):∀(b:Bits),t.get b=look b l:=by induction h with|empty=>exact fun b=>rfl|leaf p w=>exact fun b=>rfl|@branch l0 l1 t0 t1 p h0 h1 a0 a1 pE ih1=>intro b;by_cases hp:p<+:b;{obtain⟨x,rfl⟩:=hp;simp only[T.get,List.prefix_append,if_true,rH];rw[HI];cases x with|nil=>rw[tF,tF];{rfl};{intro y hy;obtain⟨y,_,rfl⟩:=cH.1 hy;simp[pre]};.intro y hy;obtain⟨y,_,rfl⟩:=cH.1 hy;simp[pre]|cons s rest=>cases s with|true=>rw[show p++true::rest=(p++[true])++rest by simp,HV,tF fun y hy=>?_];{simp[ih1]};.obtain⟨y,_,rfl⟩:=cH.1 hy;simp[pre]|false=>rw[show p++false::rest=(p++[false])++rest by simp,HV,tF (l:=l1.map _) fun y hy=>?_];{simp[pE]};.obtain⟨y,_,rfl⟩:=cH.1 hy;simp[pre]};.simp only[T.get,if_neg hp];rw[HI,tF fun y hy=>?_,tF fun y hy=>?_];{rfl};{obtain⟨y,_,rfl⟩:=cH.1 hy;rintro rfl;exact hp ⟨true::y.1,by simp[pre]⟩};.obtain⟨y,_,rfl⟩:=cH.1 hy;rintro rfl;exact hp ⟨false::y.1,by simp[pre]⟩
theorem H5{l:List (Bits×V)}{t:T V}(h:cQ l t):∀(above:Bits),t.walk above=l.map (pre above):=by induction h with|empty=>exact fun _=>rfl|leaf p w=>exact fun _=>rfl|@branch l0 l1 t0 t1 p h0 h1 a0 a1 pE ih1=>intro above;simp only[T.walk,pE,ih1,mP,vV,dS]
theorem Qm{l:List (Bits×V)}{t:T V}(h:cQ l t):∀{t':T V},cQ l t'->t=t':=by induction h with|empty=>intro t' h';exact((Ht h').1 rfl).symm|leaf p w=>intro t' h';generalize e:[(p,w)]=l at h';(cases h' with|empty=>cases e|leaf p' w'=>cases e;rfl|@branch l0 l1 _ _ q h0 h1 _ _=>exfalso;have:=congrArg rI e;simp at this;have a:=FZ.2 h0;have b:=FZ.2 h1;omega)|@branch l0 l1 t0 t1 p h0 h1 a0 a1 pE ih1=>intro t' h';generalize e:l0.map (pre (p++[false]))++l1.map (pre (p++[true]))=l at h';cases h' with|empty=>simp[h0]at e|leaf p' w'=>exfalso;have:=congrArg rI e;simp at this;have a:=FZ.2 h0;have b:=FZ.2 h1;omega|@branch m0 m1 s0 s1 q k0 k1 eh bL=>(have hside:∀(a b:Bits)(A0 A1 B0 B1:List (Bits×V)),A0.map (pre (a++[false]))++A1.map (pre (a++[true]))=B0.map (pre (b++[false]))++B1.map (pre (b++[true]))->A0≠[]->A1≠[]->B0≠[]->B1≠[]->∀s x,b≠a++s::x:=by rintro a b A0 A1 B0 B1 e hA0 hA1 hB0 hB1 s x rfl;(have hin:∀(r:Bool)z,z∈(if r then A1 else A0)->r=s:=fun r z hz=>by(have hm:pre (a++[r]) z∈A0.map (pre (a++[false]))++A1.map (pre (a++[true])):=by cases r;{exact nL _ (cH.2 ⟨z,hz,rfl⟩)};.exact pj _ (cH.2 ⟨z,hz,rfl⟩));rw[e]at hm;rcases nJ.1 hm with hm|hm<;>obtain⟨y,_,e2⟩:=cH.1 hm;{have:=congrArg Prod.fst e2;simp[pre]at this;exact this.1.symm};.have:=congrArg Prod.fst e2;simp[pre]at this;exact this.1.symm);obtain⟨z0,hz0⟩:=N8 _ hA0;obtain⟨lf,hz1⟩:=N8 _ hA1;have e0:=hin false z0 hz0;have e1:=hin true lf hz1;rw[<-e1]at e0;cases e0);(have hpq:p=q:=by rcases qA p q with⟨x,rfl⟩|⟨r,s,x,y,rfl,rfl⟩|⟨s,x,rfl⟩;{cases x with|nil=>simp|cons s x=>exact absurd rfl (hside p _ _ _ _ _ e h0 h1 k0 k1 s x)};{exfalso;obtain⟨z0,hz0⟩:=N8 _ h0;(have hm:pre (r++(!s)::x++[false]) z0∈m0.map (pre (r++s::y++[false]))++m1.map (pre (r++s::y++[true])):=by rw[<-e];exact nL _ (cH.2 ⟨z0,hz0,rfl⟩));rcases nJ.1 hm with hm|hm<;>obtain⟨z,_,e2⟩:=cH.1 hm;{have:=congrArg Prod.fst e2;simp[pre]at this};.have:=congrArg Prod.fst e2;simp[pre]at this};.exact absurd rfl (hside q _ _ _ _ _ e.symm k0 k1 h0 h1 s x));subst hpq;(have hfil:∀(A0 A1:List (Bits×V)),(A0.map (pre (p++[false]))++A1.map (pre (p++[true]))).filter (fun z=>(z.1.drop p.length).headD true==false)=A0.map (pre (p++[false]))/\(A0.map (pre (p++[false]))++A1.map (pre (p++[true]))).filter (fun z=>(z.1.drop p.length).headD false==true)=A1.map (pre (p++[true])):=fun A0 A1=>by refine⟨?_, ?_⟩;{rw[N9,FY.2,acr.2,jQ];{intro z hz;obtain⟨y,_,rfl⟩:=cH.1 hz;simp[pre]};.intro z hz;obtain⟨y,_,rfl⟩:=cH.1 hz;simp[pre]};.rw[N9,acr.2,FY.2,jP];{intro z hz;obtain⟨y,_,rfl⟩:=cH.1 hz;simp[pre]};.intro z hz;obtain⟨y,_,rfl⟩:=cH.1 hz;simp[pre]);(have hinj:∀(q:Bits)(A B:List (Bits×V)),A.map (pre q)=B.map (pre q)->A=B:=fun q A B e=>by refine(acs fun x y h=>?_).1 e;simp only[pre,Prod.mk.injEq,vq]at h;exact Prod.ext h.1 h.2);have f0:l0=m0:=hinj (p++[false]) _ _ (by rw[<-(hfil l0 l1).1,e,(hfil m0 m1).1]);have f1:l1=m1:=hinj (p++[true]) _ _ (by rw[<-(hfil l0 l1).2,e,(hfil m0 m1).2]);subst f0 f1;rw[pE eh,ih1 bL]
end Go.cP
namespace Go.cP
open Go Go.bF
def fc(b:Bool):UInt8:=if b then 49 else 48
def str(p:Bits):ByteArray:=⟨(p.map fc).toArray⟩
theorem H6{a b:Bool}(h:fc a=fc b):a=b:=by cases a<;>cases b<;>first|rfl|cases h
theorem H7(b:Bool):(fc b).toNat=48+b.toNat:=by cases b<;>rfl
theorem oN(p:Bits):(str p).data.toList=p.map fc:=by simp[str]
theorem cZ(p:Bits):(str p).size=p.length:=by simp[str,ByteArray.size]
theorem qB{a b:ByteArray}(h:a.data.toList=b.data.toList):a=b:=by cases a;cases b;simp only at h;rw[Array.toList_inj.1 h]
theorem Ct(p:Bits)(k:Nat):(str p).extract 0 k=str (p.take k):=qB (by rw[ByteArray.data_extract,Array.toList_extract,oN,oN,Ob,List.map_take];simp)
theorem Qn(p:Bits)(k:Nat):(str p).extract k p.length=str (p.drop k):=qB (by rw[ByteArray.data_extract,Array.toList_extract,oN,oN,Ob,List.map_drop];exact List.take_of_length_le (by simp))
theorem tI(p q:Bits):str p++str q=str (p++q):=qB (by rw[ByteArray.data_append,Array.toList_append,oN,oN,oN,mP])
theorem str_inj{p q:Bits}(h:str p=str q):p=q:=by have:=congrArg (·.data.toList) h;simp only[oN]at this;exact(acs fun _ _ h=>H6 h).1 this
theorem tJ(p:Bits)(i:Nat)(h:i<(str p).size):(str p)[i]=fc (p[i]'(by rw[cZ]at h;exact h)):=by
 have:(str p).data.toList[i]?=some ((str p)[i]):=by rw[Array.getElem?_toList,ByteArray.getElem_eq_getElem_data];exact Array.getElem?_eq_getElem h
 rw[oN]at this;have hi:i<p.length:=by rw[cZ]at h;exact h
 simp[hi]at this;exact this.symm
theorem Qo(s:Bool)(p:Bits)(h:0<(str (s::p)).size):(str (s::p))[0]=fc s:=tJ _ _ h
def T.aM:T ByteArray->aH| .empty=> .empty| .leaf p v=> .leaf (str p) v| .branch p l r=> .branch (str p) l.aM r.aM
theorem zk:∀(a b:Bits),share a b<=a.length/\share a b<=b.length|[],b=>by simp[share]|a::as,[]=>by simp[share]|a::as,b::bs=>by have:=zk as bs;simp only[share,fj];split<;>omega
theorem H8:∀(a b:Bits)(i:Nat),i<share a b->a[i]?=b[i]?|[],b,i,h=>by simp[share]at h|a::as,[],i,h=>by simp[share]at h|a::as,b::bs,i,h=>by simp only[share]at h;split at h;{rename_i e;subst e;cases i with|zero=>rfl|succ i=>simp only[rJ];exact H8 as bs i (by omega)};.omega
theorem H9:∀(a b:Bits),share a b<a.length->share a b<b.length->a[share a b]?≠b[share a b]?|[],b,h,_=>by simp[share]at h|a::as,[],h,k=>by simp at k|a::as,b::bs,h,k=>by simp only[share]at h k⊢;split at h;{rename_i e;subst e;simp only[if_true]at k⊢;simp only[rJ];exact H9 as bs (by simpa using h) (by simpa using k)};.rename_i e;simp only[if_neg e,List.getElem?_cons_zero,ne_eq,Option.some.injEq];exact e
def fo(c:UInt8)(i:Nat):Bool:=c.toNat/2^i%2==1
def eight(c:UInt8):Bits:=[fo c 7,fo c 6,fo c 5,fo c 4,fo c 3,fo c 2,fo c 1,fo c 0]
def ga:List UInt8->Bits|[]=>[]|c::l=>true::(eight c++ga l)
def kb(l:List UInt8):Bits:=ga l++[false]
theorem Qp(a b:List UInt8):ga (a++b)=ga a++ga b:=by induction a with|nil=>rfl|cons c a ih=>simp[ga,ih]
theorem Cu(l:List UInt8):(ga l).length=9*l.length:=by induction l with|nil=>rfl|cons c l ih=>simp[ga,eight,ih];omega
theorem oO(l:List UInt8):(kb l).length=9*l.length+1:=by simp[kb,Cu]
theorem zl(n:Nat)(h:n<256):n=n/2^7%2*128+n/2^6%2*64+n/2^5%2*32+n/2^4%2*16+n/2^3%2*8+n/2^2%2*4+n/2^1%2*2+n/2^0%2:=by simp only[Nat.reducePow];omega
theorem qC{a b:UInt8}{i:Nat}(h:fo a i=fo b i):a.toNat/2^i%2=b.toNat/2^i%2:=by unfold fo at h;(have h1:(a.toNat/2^i%2=1)↔(b.toNat/2^i%2=1):=by constructor;{intro e;rw[beq_iff_eq.2 e]at h;exact beq_iff_eq.1 h.symm};.intro e;rw[beq_iff_eq.2 e]at h;exact beq_iff_eq.1 h);omega
theorem Ia{a b:UInt8}(h:eight a=eight b):a=b:=by simp only[eight,kr,and_true]at h;obtain⟨h7,h6,h5,h4,h3,h2,h1,h0⟩:=h;apply UInt8.toNat_inj.1;rw[zl a.toNat a.toNat_lt,zl b.toNat b.toNat_lt,qC h7,qC h6,qC h5,qC h4,qC h3,qC h2,qC h1,qC h0]
theorem Ib:∀(a b:Bits),a.length=b.length->a≠b->∃q s x y,a=q++s::x/\b=q++(!s)::y|[],[],_,h=>absurd rfl h|a::as,b::bs,hl,h=>by by_cases e:a=b;{subst e;(have hl':as.length=bs.length:=by simpa using hl);obtain⟨q,s,x,y,rfl,rfl⟩:=Ib as bs hl' (fun e=>h (by rw[e]));exact⟨a::q,s,x,y,rfl,rfl⟩};.refine⟨[],a,as,bs,rfl, ?_⟩;cases a<;>cases b<;>first|rfl|exact absurd rfl e
theorem Cv:∀(a b:List UInt8),a≠b->∃q s x y,kb a=q++s::x/\kb b=q++(!s)::y|[],[],h=>absurd rfl h|[],c::b,_=>⟨[],false,[],eight c++kb b,rfl,by simp[kb,ga]⟩|c::a,[],_=>⟨[],true,eight c++kb a,[],by simp[kb,ga],rfl⟩|c::a,d::b,h=>by by_cases e:c=d;{subst e;obtain⟨q,s,x,y,h1,h2⟩:=Cv a b (fun e=>h (by rw[e]));refine⟨true::(eight c++q),s,x,y, ?_, ?_⟩;{show true::(eight c++ga a)++[false]=_;rw[eI,dS,show ga a++[false]=kb a from rfl,h1];simp};.show true::(eight c++ga b)++[false]=_;rw[eI,dS,show ga b++[false]=kb b from rfl,h2];simp};.obtain⟨q,s,x,y,h1,h2⟩:=Ib (eight c) (eight d) rfl (fun h=>e (Ia h));refine⟨true::q,s,x++kb a,y++kb b, ?_, ?_⟩;{show true::(eight c++ga a)++[false]=_;rw[eI,dS,show ga a++[false]=kb a from rfl,h1];simp};.show true::(eight d++ga b)++[false]=_;rw[eI,dS,show ga b++[false]=kb b from rfl,h2];simp
theorem Cw{a b:List UInt8}(h:kb a=kb b):a=b:=by by_cases e:a=b;{exact e};.obtain⟨q,s,x,y,h1,h2⟩:=Cv a b e;rw[h1,h2]at h;simp at h
theorem Ic(a b:List UInt8):Apart (kb a) (kb b):=by by_cases e:a=b;{subst e;exact .inl rfl};.obtain⟨q,s,x,y,h1,h2⟩:=Cv a b e;exact .inr ⟨q,s,x,y,h1,h2⟩
def dC:List UInt8->List UInt8->Bool|[],[]=>false|[],_::_=>true|_::_,[]=>false|a::as,b::bs=>if a=b then dC as bs else decide (a.toNat<b.toNat)
theorem Qq(a:List UInt8):dC a a=false:=by induction a with|nil=>rfl|cons c a ih=>simp[dC,ih]
theorem Cx:∀{a b:List UInt8},dC a b=true->dC b a=false|[],[],h=>rfl|[],_::_,_=>rfl|_::_,[],h=>by cases h|c::a,d::b,h=>by simp only[dC]at h⊢;by_cases e:c=d;{subst e;rw[if_pos rfl]at h⊢;exact Cx h};.rw[if_neg e]at h;rw[if_neg (dq e)];have:=of_decide_eq_true h;exact decide_eq_false (by omega)
theorem zm:∀{a b c:List UInt8},dC a b=true->dC b c=true->dC a c=true|[],[],_,h,_=>by cases h|[],_::_,[],_,h=>by cases h|[],_::_,_::_,_,_=>rfl|_::_,[],_,h,_=>by cases h|_::_,_::_,[],_,h=>by cases h|x::a,y::b,z::c,h,k=>by simp only[dC]at h k⊢;by_cases e:x=y;{subst e;rw[if_pos rfl]at h;by_cases e2:x=z;{subst e2;rw[if_pos rfl]at k⊢;exact zm h k};.rw[if_neg e2]at k⊢;exact k};.rw[if_neg e]at h;have h1:=of_decide_eq_true h;by_cases e2:y=z;{subst e2;rw[if_neg e];exact h};.rw[if_neg e2]at k;have h2:=of_decide_eq_true k;(have e3:x≠z:=fun e=>by subst e;omega);rw[if_neg e3];exact decide_eq_true (by omega)
theorem zn:∀(a b:List UInt8),dC a b=false->dC b a=false->a=b|[],[],_,_=>rfl|[],_::_,h,_=>by cases h|_::_,[],_,h=>by cases h|c::a,d::b,h,k=>by simp only[dC]at h k;by_cases e:c=d;{subst e;rw[if_pos rfl]at h k;rw[zn a b h k]};.rw[if_neg e]at h;rw[if_neg (dq e)]at k;have h1:=of_decide_eq_false h;have h2:=of_decide_eq_false k;exact absurd (UInt8.toNat_inj.1 (by omega)) e
theorem vX{a b:List UInt8}(h:dC a b=true):a≠b:=fun e=>by subst e;rw[Qq]at h;cases h
def nW:Bits->Nat|[]=>0|b::q=>b.toNat*2^q.length+nW q
theorem Ie(q:Bits):nW q<2^q.length:=by induction q with|nil=>simp[nW]|cons a q ih=>simp only[nW,fj,Nat.pow_succ];cases a<;>simp only[F3,F4,F5,BD]<;>omega
theorem Ig:∀(p q x y:Bits),p.length=q.length->p≠q->blt (p++x) (q++y)=decide (nW p<nW q)|[],[],_,_,_,h=>absurd rfl h|a::p,b::q,x,y,hl,h=>by(have hl':p.length=q.length:=by simpa using hl);have h1:=Ie p;have h2:=Ie q;simp only[eI,blt];by_cases e:a=b;{subst e;rw[if_pos rfl,Ig p q x y hl' (fun e=>h (by rw[e]))];refine decide_eq_decide.2 ?_;simp only[nW];rw[hl'];omega};.rw[if_neg e];cases a<;>cases b;{exact absurd rfl e};{refine(decide_eq_true ?_).symm;simp only[nW,F3,F4,F5,BD];rw[hl']at h1;omega};{refine(decide_eq_false ?_).symm;simp only[nW,F3,F4,F5,BD];rw[<-hl']at h2;omega};.exact absurd rfl e
theorem Ih(c:UInt8):nW (eight c)=c.toNat:=by have h:=zl c.toNat c.toNat_lt;(have hb:∀n:Nat,(n%2==1).toNat=n%2:=fun n=>by rcases Nat.mod_two_eq_zero_or_one n with e|e<;>rw[e]<;>rfl);simp only[eight,nW,fo,hb,fj,List.length_nil];simp only[Nat.reducePow,Nat.reduceAdd]at h⊢;omega
theorem Ii : ∀ (a b : List UInt8), blt (kb a) (kb b) = dC a b
 | [], [] => rfl
 | [], _ :: _ => rfl
 | _ :: _, [] => rfl
 | c :: a, d :: b => by
   have e1 : kb (c :: a) = true :: (eight c ++ kb a) := by simp [kb, ga]
   have e2 : kb (d :: b) = true :: (eight d ++ kb b) := by simp [kb, ga]
   rw [e1, e2]
   simp only [blt, if_true, dC]
   by_cases e : c = d
   . subst e; rw [if_pos rfl, Cr, Ii a b]
   . rw [if_neg e, Ig (eight c) (eight d) _ _ rfl (fun h => e (Ia h)), Ih, Ih]
variable{V:Type}
abbrev gU(V:Type):=List (List UInt8×V)
def toBits(l:gU V):List (Bits×V):=l.map fun x=>(kb x.1,x.2)
def qD(l:gU V):Prop:=l.Pairwise fun x y=>dC x.1 y.1=true
def fF(k:List UInt8)(l:gU V):gU V:=l.filter fun x=>x.1 !=k
def gH(k:List UInt8)(v:V)(l:gU V):gU V:=(fF k l).takeWhile (fun x=>dC x.1 k)++(k,v)::(fF k l).dropWhile (fun x=>dC x.1 k)
def b8(k:List UInt8):gU V->Option V|[]=>none|x::l=>if x.1=k then some x.2 else b8 k l
theorem Ij{k:List UInt8}{l:gU V}(h:∀x,x∈l->x.1≠k):fF k l=l:=FY.2 fun x hx=>bne_iff_ne.2 (h x hx)
theorem Cy{k:List UInt8}{x:List UInt8×V}{l:gU V}(h:x.1≠k):fF k (x::l)=x::fF k l:=acu (bne_iff_ne.2 h)
theorem Cz{k:List UInt8}{x:List UInt8×V}{l:gU V}(h:x.1=k):fF k (x::l)=fF k l:=acv (by simp[h])
theorem Qr{k:List UInt8}{l:gU V}(h:∀x,x∈l->dC x.1 k=false):l.takeWhile (fun x=>dC x.1 k)=[]/\l.dropWhile (fun x=>dC x.1 k)=l:=by cases l with|nil=>exact⟨rfl,rfl⟩|cons x l=>have:=h x dE;exact⟨List.takeWhile_cons_of_neg (by rw[this];decide),List.dropWhile_cons_of_neg (by rw[this];decide)⟩
theorem zo{k:List UInt8}{v:V}{l:gU V}(h:∀x,x∈l->dC k x.1=true):gH k v l=(k,v)::l:=by have h1:fF k l=l:=Ij fun x hx=>(vX (h x hx)).symm;obtain⟨h2,h3⟩:=Qr (k:=k) (l:=l) fun x hx=>Cx (h x hx);unfold gH;rw[h1,h2,h3];rfl
theorem CB{k:List UInt8}{v:V}{y:List UInt8×V}{l:gU V}(he:y.1=k)(h:∀x,x∈l->dC k x.1=true):gH k v (y::l)=(k,v)::l:=by have:=zo (v:=v) h;unfold gH at this⊢;rw[Cz he];exact this
theorem CC{k:List UInt8}{v:V}{y:List UInt8×V}{l:gU V}(h:dC y.1 k=true):gH k v (y::l)=y::gH k v l:=by unfold gH;rw[Cy (vX h),List.takeWhile_cons_of_pos (p:=fun x=>dC x.1 k) (a:=y) h,List.dropWhile_cons_of_pos (p:=fun x=>dC x.1 k) (a:=y) h];rfl
theorem Qs{k:List UInt8}{v:V}{l:gU V}(hr:qD l):toBits (gH k v l)=ins (kb k) v (toBits l):=by induction l with|nil=>rfl|cons y l ih=>obtain⟨hy,hl⟩:=rK.1 hr;show toBits (gH k v (y::l))=ins (kb k) v ((kb y.1,y.2)::toBits l);simp only[ins];by_cases e:y.1=k;{rw[if_pos (by rw[e]),CB e fun x hx=>e▸hy x hx];rfl};.rw[if_neg (fun h=>e (Cw h).symm),Ii];cases h:dC k y.1 with|true=>rw[if_pos rfl,zo (fun x hx=>by rcases cJ.1 hx with rfl|hx;{exact h};.exact zm h (hy x hx))];rfl|false=>(have h2:dC y.1 k=true:=by cases h3:dC y.1 k with|true=>rfl|false=>exact absurd (zn _ _ h3 h) e);rw[if_neg (by decide),CC h2,<-ih hl];rfl
theorem Qt(k:List UInt8)(l:gU V):toBits (fF k l)=del (kb k) (toBits l):=by induction l with|nil=>rfl|cons y l ih=>by_cases e:y.1=k;{rw[Cz e,ih];show _=del (kb k) ((kb y.1,y.2)::toBits l);unfold del;rw[acv (by simp[e])]};.rw[Cy e];show(kb y.1,y.2)::toBits (fF k l)=del (kb k) ((kb y.1,y.2)::toBits l);have e2:kb y.1≠kb k:=fun h=>e (Cw h);unfold del at ih⊢;rw[acu (by simpa using e2),ih]
theorem CE(k:List UInt8)(l:gU V):look (kb k) (toBits l)=b8 k l:=by induction l with|nil=>rfl|cons y l ih=>show look (kb k) ((kb y.1,y.2)::toBits l)=_;simp only[look,b8];by_cases e:y.1=k;{rw[if_pos (by rw[e]),if_pos e]};.rw[if_neg (fun h=>e (Cw h)),if_neg e,ih]
theorem vY{k:List UInt8}{v:V}:∀{l:gU V},b8 k l=some v->(k,v)∈l|[],h=>by cases h|x::l,h=>by simp only[b8]at h;by_cases e:x.1=k;{rw[if_pos e]at h;cases h;subst e;exact dE};.rw[if_neg e]at h;exact fB _ (vY h)
theorem zq{k:List UInt8}:∀{l:gU V},b8 k l=none↔∀x,x∈l->x.1≠k|[]=>by simp[b8]|x::l=>by simp only[b8];by_cases e:x.1=k;{rw[if_pos e];constructor;{intro h;cases h};.intro h;exact absurd e (h x dE)};.rw[if_neg e,zq];constructor;{intro h y hy;rcases cJ.1 hy with rfl|hy;{exact e};.exact h y hy};.intro h y hy;exact h y (fB _ hy)
theorem CF(k j:List UInt8)(l:gU V):b8 j (fF k l)=if j=k then none else b8 j l:=by induction l with|nil=>simp[fF,b8]|cons y l ih=>by_cases e:y.1=k;{rw[Cz e,ih];by_cases e2:j=k;{rw[if_pos e2,if_pos e2]};.rw[if_neg e2,if_neg e2];simp only[b8];rw[if_neg (fun h=>e2 (h.symm.trans e))]};.rw[Cy e];simp only[b8];by_cases e2:y.1=j;{rw[if_pos e2,if_pos e2,if_neg (fun h=>e (e2.trans h))]};.rw[if_neg e2,if_neg e2,ih]
theorem Ik{k:List UInt8}{v:V}{l:gU V}{x:List UInt8×V}(h:x∈gH k v l):x=(k,v)\/(x∈l/\x.1≠k):=by unfold gH at h;have hs:∀y,y∈fF k l->y∈l/\y.1≠k:=fun y hy=>⟨(List.mem_filter.1 hy).1,bne_iff_ne.1 (List.mem_filter.1 hy).2⟩;rcases nJ.1 h with h|h;{exact .inr (hs _ (List.takeWhile_sublist _|>.mem h))};.rcases cJ.1 h with h|h;{exact .inl h};.exact .inr (hs _ (List.dropWhile_sublist _|>.mem h))
theorem qD.put{k:List UInt8}{v:V}{l:gU V}(hr:qD l):qD (gH k v l):=by induction l with|nil=>exact rK.2 ⟨fun _ h=>absurd h List.not_mem_nil,List.Pairwise.nil⟩|cons y l ih=>obtain⟨hy,hl⟩:=rK.1 hr;by_cases e:y.1=k;{rw[CB e fun x hx=>e▸hy x hx];exact rK.2 ⟨fun x hx=>e▸hy x hx,hl⟩};.cases h:dC k y.1 with|true=>(have hall:∀x,x∈y::l->dC k x.1=true:=fun x hx=>by rcases cJ.1 hx with rfl|hx;{exact h};.exact zm h (hy x hx));rw[zo hall];exact rK.2 ⟨hall,hr⟩|false=>(have h2:dC y.1 k=true:=by cases h3:dC y.1 k with|true=>rfl|false=>exact absurd (zn _ _ h3 h) e);rw[CC h2];refine rK.2 ⟨fun x hx=>?_,ih hl⟩;rcases Ik hx with rfl|⟨hx,_⟩;{exact h2};.exact hy x hx
theorem Il(k j:List UInt8)(v:V){l:gU V}(hr:qD l):b8 j (gH k v l)=if j=k then some v else b8 j l:=by induction l with|nil=>show b8 j [(k,v)]=_;simp only[b8];by_cases e:k=j;{rw[if_pos e,if_pos e.symm]};.rw[if_neg e,if_neg (dq e)]|cons y l ih=>obtain⟨hy,hl⟩:=rK.1 hr;by_cases e:y.1=k;{rw[CB e fun x hx=>e▸hy x hx];simp only[b8];by_cases e2:k=j;{rw[if_pos e2,if_pos e2.symm]};.rw[if_neg e2,if_neg (dq e2),if_neg (fun h=>e2 (e.symm.trans h))]};.cases h:dC k y.1 with|true=>rw[zo (fun x hx=>by rcases cJ.1 hx with rfl|hx;{exact h};.exact zm h (hy x hx))];show(if k=j then some v else b8 j (y::l))=_;by_cases e2:k=j;{rw[if_pos e2,if_pos e2.symm]};.rw[if_neg e2,if_neg (dq e2)]|false=>(have h2:dC y.1 k=true:=by cases h3:dC y.1 k with|true=>rfl|false=>exact absurd (zn _ _ h3 h) e);rw[CC h2];simp only[b8];rw[ih hl];by_cases e2:y.1=j;{rw[if_pos e2,if_pos e2,if_neg (fun h=>e (e2.trans h))]};.rw[if_neg e2,if_neg e2]
theorem Im : ∀ {a b : gU V}, qD a -> qD b -> (∀ k, b8 k a = b8 k b) -> a = b
 | [], [], _, _, _ => rfl
 | [], y :: b, _, _, h => by have := h y.1; simp [b8] at this
 | x :: a, [], _, _, h => by have := h x.1; simp [b8] at this
 | x :: a, y :: b, ha, hb, h => by
   obtain ⟨hx, ha'⟩ := rK.1 ha
   obtain ⟨hy, hb'⟩ := rK.1 hb
   have e : x.1 = y.1 := by
     by_cases e : x.1 = y.1
     . exact e
     . exfalso
       have h1 := h x.1
       have h2 := h y.1
       simp only [b8] at h1 h2
       rw [if_pos trivial, if_neg (dq e)] at h1
       rw [if_pos trivial, if_neg e] at h2
       have m1 := hy _ (vY h1.symm)
       have m2 := hx _ (vY h2)
       have := Cx m1
       rw [show dC x.1 y.1 = true from m2] at this
       cases this
   have ev : x.2 = y.2 := by
     have h1 := h x.1
     simp only [b8] at h1
     rw [if_pos trivial, if_pos e.symm] at h1
     exact Option.some.inj h1
   have exy : x = y := Prod.ext e ev
   subst exy
   congr 1
   refine Im ha' hb' fun k => ?_
   have hk := h k
   simp only [b8] at hk
   by_cases ek : x.1 = k
   . have cy : b8 k a = none := zq.2 fun z hz e2 => vX (hx z hz) (ek.trans e2.symm)
     have n2 : b8 k b = none := zq.2 fun z hz e2 => vX (hy z hz) (ek.trans e2.symm)
     rw [cy, n2]
   . rw [if_neg ek, if_neg ek] at hk; exact hk
