/- TREES OF BITS, AS PLAIN. -/
import Init
import Derived.Test.YtddcbeeldjjmeaaGreatDoorP8
set_option linter.unusedVariables false
open Bool renaming false_eq_true->ew,toNat_false->Fq,toNat_true->Fp
open ByteArray renaming data_extract->Fo,size->xn
open List renaming append_assoc->ik,append_cancel_left_eq->uj,append_nil->lO,cons_append->fz,drop_left->xm,exists_mem_of_ne_nil->MM,extract_eq_take_drop->MP,filter_append->MN,filter_cons_of_neg->ZY,filter_cons_of_pos->ZX,filter_eq_nil_iff->ZV,filter_eq_self->Fl,getElem?_cons_succ->po,length->se,length_cons->fh,length_pos_iff->qB,map_append->nT,map_inj_right->ZW,mem_append->lN,mem_append_left->mY,mem_append_right->uk,mem_cons->cP,mem_cons_of_mem->eX,mem_cons_self->db,mem_map->cD,mem_singleton->qz,nil_append->ko,pairwise_cons->qE
open List.cons renaming injEq->kq
open Nat renaming lt_irrefl->fg,one_mul->Fs,zero_mul->AW
open Ne renaming symm->dt
namespace Go.bQ
abbrev Bits:=List Bool
inductive T(V:Type)where
 |empty
 |leaf(p:Bits)(v:V)
 |branch(p:Bits)(l r:T V)
def share:Bits->Bits->Nat|a::as,b::bs=>if a=b then share as bs+1 else 0|_,_=>0
variable{V:Type}
def T.path:T V->Bits| .empty=>[]| .leaf p _=>p| .branch p _ _=>p
def T.fB(q:Bits):T V->T V| .empty=> .empty| .leaf _ v=> .leaf q v| .branch _ l r=> .branch q l r
def fork(p:Bits)(s:Bool)(there other:T V):T V:=if s then .branch p other there else .branch p there other
def sM(t:T V)(c:Nat)(b:Bits)(v:V):T V:=match b.drop c with|[]=> .empty|s::rest=>fork (b.take c) s (.leaf rest v) (t.fB (t.path.drop (c+1)))
def T.iR:T V->Bits->V->T V| .empty,b,v=> .leaf b v| .leaf p x,b,v=>if share p b<p.length then sM (.leaf p x) (share p b) b v else .leaf b v| .branch p l r,b,v=>if share p b<p.length then sM (.branch p l r) (share p b) b v else match b.drop p.length with|[]=> .empty|true::rest=> .branch p l (r.iR rest v)|false::rest=> .branch p (l.iR rest v) r
def T.isEmpty:T V->Bool| .empty=>true|_=>false
def T.fY:T V->Bits->T V| .empty,_=> .empty| .leaf _ _,_=> .empty| .branch p l r,b=>match b.drop p.length with|[]=> .empty|true::rest=>let below:=r.fY rest;if below.isEmpty then l.fB (p++[false]++l.path)else .branch p l below|false::rest=>let below:=l.fY rest;if below.isEmpty then r.fB (p++[true]++r.path)else .branch p below r
def T.get:T V->Bits->Option V| .empty,_=>none| .leaf p v,b=>if p=b then some v else none| .branch p l r,b=>if p<+:b then(match b.drop p.length with|[]=>none|true::rest=>r.get rest|false::rest=>l.get rest)else none
def T.walk(above:Bits):T V->List (Bits×V)| .empty=>[]| .leaf p v=>[(above++p,v)]| .branch p l r=>l.walk (above++p++[false])++r.walk (above++p++[true])
def pre(q:Bits)(x:Bits×V):Bits×V:=(q++x.1,x.2)
theorem OR(q r:Bits):(pre q∘pre r:Bits×V->Bits×V)=pre (q++r):=by funext x;simp[pre]
theorem uP(q r:Bits)(l:List (Bits×V)):(l.map (pre r)).map (pre q)=l.map (pre (q++r)):=by rw[List.map_map,OR]
theorem pre_nil(l:List (Bits×V)):l.map (pre [])=l:=by(have:(pre []:Bits×V->Bits×V)=id:=by funext x;simp[pre]);rw[this,List.map_id]
inductive cF:List (Bits×V)->T V->Prop
 |empty:cF [] .empty
 |leaf(p:Bits)(v:V):cF [(p,v)] (.leaf p v)
 |branch{l0 l1:List (Bits×V)}{t0 t1:T V}(p:Bits):l0≠[]->l1≠[]->cF l0 t0->cF l1 t1->cF (l0.map (pre (p++[false]))++l1.map (pre (p++[true]))) (.branch p t0 t1)
theorem GJ{l:List (Bits×V)}{t:T V}(h:cF l t):l=[]↔t= .empty:=by cases h with|empty=>simp|leaf p v=>simp|branch p h0 h1 _ _=>simp[h0]
theorem qR{l:List (Bits×V)}{t:T V}(h:cF l t):t.isEmpty=true↔l=[]:=by rw[GJ h];cases t<;>simp[T.isEmpty]
theorem GK{l:List (Bits×V)}{t:T V}(h:cF l t)(hl:l≠[])(q:Bits):cF (l.map (pre q)) (t.fB (q++t.path)):=by cases h with|empty=>exact absurd rfl hl|leaf p v=>exact .leaf _ _|@branch l0 l1 t0 t1 p h0 h1 a b=>have:=cF.branch (q++p) h0 h1 a b;rw[nT,uP,uP,<-ik,<-ik];exact this
def blt:Bits->Bits->Bool|[],[]=>false|[],_::_=>true|_::_,[]=>false|a::as,b::bs=>if a=b then blt as bs else !a
def ins(b:Bits)(v:V):List (Bits×V)->List (Bits×V)|[]=>[(b,v)]|x::l=>if b=x.1 then(b,v)::l else if blt b x.1 then(b,v)::x::l else x::ins b v l
def del(b:Bits)(l:List (Bits×V)):List (Bits×V):=l.filter fun x=>x.1 !=b
def look(b:Bits):List (Bits×V)->Option V|[]=>none|x::l=>if x.1=b then some x.2 else look b l
theorem BO(q a b:Bits):blt (q++a) (q++b)=blt a b:=by induction q with|nil=>rfl|cons x q ih=>simp[blt,ih]
theorem GL(q b:Bits)(v:V)(l:List (Bits×V)):ins (q++b) v (l.map (pre q))=(ins b v l).map (pre q):=by induction l with|nil=>rfl|cons x l ih=>simp only[List.map_cons,ins,pre,uj,BO];split;{rfl};.split;{rfl};.rw[ih];rfl
theorem GM{b:Bits}{v:V}{A B:List (Bits×V)}(h:∀x,x∈A->b≠x.1/\blt b x.1=false):ins b v (A++B)=A++ins b v B:=by induction A with|nil=>rfl|cons x A ih=>have hx:=h x db;simp only[fz,ins,if_neg hx.1,hx.2,ew,if_false];rw[ih fun y hy=>h y (eX _ hy)]
theorem GN{b:Bits}{v:V}{A B:List (Bits×V)}(h:∀x,x∈B->b≠x.1/\blt b x.1=true):ins b v (A++B)=ins b v A++B:=by induction A with|nil=>(cases B with|nil=>rfl|cons x B=>have hx:=h x db;simp only[ko,ins,if_neg hx.1,hx.2,if_true];rfl)|cons x A ih=>simp only[fz,ins];split;{rfl};.split;{rfl};.rw[ih];rfl
theorem GO(b:Bits)(A B:List (Bits×V)):del b (A++B)=del b A++del b B:=by simp[del]
theorem GP(q b:Bits)(l:List (Bits×V)):del (q++b) (l.map (pre q))=(del b l).map (pre q):=by unfold del;rw[List.filter_map];congr 1;refine List.filter_congr fun x _=>?_;show((q++x.1)!=(q++b))=(x.1 !=b);rw[Bool.eq_iff_iff];simp
theorem OS{b:Bits}{l:List (Bits×V)}(h:∀x,x∈l->x.1≠b):del b l=l:=by unfold del;rw[Fl];intro x hx;simp[h x hx]
theorem GQ(b:Bits)(A B:List (Bits×V)):look b (A++B)=(look b A).or (look b B):=by induction A with|nil=>simp[look]|cons x A ih=>simp only[fz,look];split;{simp};.exact ih
theorem GR(q b:Bits)(l:List (Bits×V)):look (q++b) (l.map (pre q))=look b l:=by induction l with|nil=>rfl|cons x l ih=>simp[look,pre,ih]
theorem sN{b:Bits}{l:List (Bits×V)}(h:∀x,x∈l->x.1≠b):look b l=none:=by induction l with|nil=>rfl|cons x l ih=>simp only[look,if_neg (h x db)];exact ih fun y hy=>h y (eX _ hy)
def Apart(a b:Bits):Prop:=a=b\/∃q s x y,a=q++s::x/\b=q++(!s)::y
theorem Apart.pre{q a b:Bits}(h:Apart (q++a) (q++b)):Apart a b:=by induction q with|nil=>exact h|cons c q ih=>refine ih ?_;rcases h with h|⟨r,s,x,y,e1,e2⟩;{simp only[fz,kq,true_and]at h;exact .inl h};.cases r with|nil=>simp only[fz,ko,kq]at e1 e2;have h1:=e1.1.symm.trans e2.1;cases s<;>cases h1|cons d r=>simp only[fz,kq]at e1 e2;exact .inr ⟨r,s,x,y,e1.2,e2.2⟩
theorem sO(p x:Bits):share p (p++x)=p.length:=by induction p with|nil=>cases x<;>rfl|cons a p ih=>simp[share,ih]
theorem yg(q:Bits)(s:Bool)(x y:Bits):share (q++(!s)::x) (q++s::y)=q.length:=by induction q with|nil=>cases s<;>simp[share]|cons a q ih=>simp[share,ih]
theorem sP(p b:Bits):(∃x,b=p++x)\/(∃q s x y,p=q++(!s)::x/\b=q++s::y)\/∃s x,p=b++s::x:=by induction p generalizing b with|nil=>exact .inl ⟨b,rfl⟩|cons a p ih=>cases b with|nil=>exact .inr (.inr ⟨a,p,rfl⟩)|cons c b=>by_cases h:a=c;{subst h;rcases ih b with⟨x,rfl⟩|⟨q,s,x,y,rfl,rfl⟩|⟨s,x,rfl⟩;{exact .inl ⟨x,rfl⟩};{exact .inr (.inl ⟨a::q,s,x,y,rfl,rfl⟩)};.exact .inr (.inr ⟨s,x,rfl⟩)};.refine .inr (.inl ⟨[],c,p,b, ?_,rfl⟩);(have:a=!c:=by cases a<;>cases c<;>simp_all);rw[this];rfl
theorem yh(q:Bits)(s:Bool)(x y:Bits):blt (q++s::x) (q++(!s)::y)=!s:=by rw[BO];cases s<;>rfl
theorem yi(q:Bits)(s:Bool)(x y:Bits):q++s::x≠q++(!s)::y:=by intro h;rw[uj,kq]at h;cases s<;>cases h.1
variable{V:Type}
theorem BP{l:List (Bits×V)}{t:T V}(h:cF l t):∀x,x∈l->∃y,x.1=t.path++y:=by cases h with|empty=>intro x hx;cases hx|leaf p v=>intro x hx;rw[qz]at hx;subst hx;exact⟨[],by simp[T.path]⟩|branch p _ _ _ _=>intro x hx;rcases lN.1 hx with hx|hx<;>obtain⟨y,_,rfl⟩:=cD.1 hx;{exact⟨false::y.1,by simp[pre,T.path]⟩};.exact⟨true::y.1,by simp[pre,T.path]⟩
theorem sQ{l:List (Bits×V)}{t:T V}(h:cF l t)(hl:l≠[]):∃x,x∈l:=by cases l with|nil=>exact absurd rfl hl|cons x l=>exact⟨x,db⟩
theorem GS(b:Bits)(v:V)(l:List (Bits×V)):ins b v l≠[]:=by cases l with|nil=>simp[ins]|cons z l=>unfold ins;by_cases h1:b=z.1;{rw[if_pos h1];simp};.rw[if_neg h1];by_cases h2:blt b z.1=true;{rw[if_pos h2];simp};.rw[if_neg h2];simp
theorem GU(p b:Bits)(s:Bool)(l:List (Bits×V)):del (p++s::b) (l.map (pre (p++[!s])))=l.map (pre (p++[!s])):=OS fun y hy=>by obtain⟨y,_,rfl⟩:=cD.1 hy;simp only[pre,ik,fz,ko,ne_eq,uj,kq,not_and];intro h;cases s<;>cases h
theorem GV{l:List (Bits×V)}{t:T V}(h:cF l t)(hl:l≠[]){q:Bits}{s:Bool}{x y:Bits}{v:V}(hp:t.path=q++(!s)::x):cF (ins (q++s::y) v l) (sM t q.length (q++s::y) v):=by
 have hm:∀z,z∈l->∃r,z.1=q++(!s)::r:=fun z hz=>by obtain⟨r,e⟩:=BP h z hz;exact⟨x++r,by rw[e,hp];simp⟩
 have hcut:t.path.drop (q.length+1)=x:=by rw[hp,show q++(!s)::x=(q++[!s])++x by simp,show q.length+1=(q++[!s]).length by simp,xm]
 have OT:∃l',l=l'.map (pre (q++[!s]))/\l'≠[]/\cF l' (t.fB x):=by cases h with|empty=>exact absurd rfl hl|leaf p w=>simp only[T.path]at hp;subst hp;exact⟨[(x,w)],by simp[pre],by simp, .leaf _ _⟩|@branch l0 l1 t0 t1 p h0 h1 a b=>simp only[T.path]at hp;subst hp;refine⟨_, ?_, ?_, .branch x h0 h1 a b⟩;{rw[nT,uP,uP];simp};.simp[h0]
 obtain⟨l',rfl,hl',hr⟩:=OT;unfold sM;rw[xm,List.take_left,hcut];cases s with|true=>(have e:ins (q++true::y) v (l'.map (pre (q++[false])))=l'.map (pre (q++[false]))++[(y,v)].map (pre (q++[true])):=by(have:=GM (b:=q++true::y) (v:=v) (A:=l'.map (pre (q++[!true]))) (B:=[]) fun z hz=>by obtain⟨r,e⟩:=hm z hz;rw[e];exact⟨yi q true y r,yh q true y r⟩);rw[lO]at this;rw[show(q++[false])=q++[!true]from rfl,this];simp[ins,pre]);rw[show q++[!true]=q++[false]from rfl,e];simp only[fork,if_true];exact .branch q hl' (by simp) hr (.leaf _ _)|false=>(have e:ins (q++false::y) v (l'.map (pre (q++[true])))=[(y,v)].map (pre (q++[false]))++l'.map (pre (q++[true])):=by(have:=GN (b:=q++false::y) (v:=v) (A:=[]) (B:=l'.map (pre (q++[!false]))) fun z hz=>by obtain⟨r,e⟩:=hm z hz;rw[e];exact⟨yi q false y r,yh q false y r⟩);rw[ko]at this;rw[show(q++[true])=q++[!false]from rfl,this];simp[ins,pre]);rw[show q++[!false]=q++[true]from rfl,e];simp only[fork,ew,if_false];exact .branch q (by simp) hl' (.leaf _ _) hr
theorem GW{p b:Bits}{e:Bits}(h:Apart b (p++e)):(∃x,b=p++x)\/∃q s x y,p=q++(!s)::x/\b=q++s::y:=by rcases sP p b with h1|h1|⟨s,x,rfl⟩;{exact .inl h1};{exact .inr h1};.exfalso;rcases h with h|⟨q,s',y,z,e1,e2⟩;{have:=congrArg se h;simp at this};.rw[e1]at e2;simp only[ik,fz,uj,kq]at e2;cases s'<;>cases e2.1
theorem OU{l:List (Bits×V)}{t:T V}(h:cF l t):∀(b:Bits)(v:V),(∀x,x∈l->Apart b x.1)->cF (ins b v l) (t.iR b v):=by induction h with|empty=>exact fun b v _=> .leaf b v|leaf p w=>intro b v aj;have h1:=aj (p,w) db;rcases h1 with rfl|⟨q,s,x,y,rfl,rfl⟩;{(have e:share b b=b.length:=by have:=sO b [];rwa[lO]at this);simp only[T.iR,e,fg,if_false,ins,if_true];exact .leaf _ _};.have e:=yg q s y x;(have hlt:q.length<(q++(!s)::y).length:=by simp);simp only[T.iR,e,if_pos hlt];exact GV (.leaf _ w) (by simp) rfl|@branch l0 l1 t0 t1 p h0 h1 a0 a1 oS ih1=>intro b v aj;obtain⟨z0,hz0⟩:=sQ a0 h0;obtain⟨pH,hz1⟩:=sQ a1 h1;(have hA0:∀x,x∈l0->Apart b (p++false::x.1):=fun x hx=>by have:=aj (pre (p++[false]) x) (mY _ (cD.2 ⟨x,hx,rfl⟩));simpa[pre]using this);(have hA1:∀x,x∈l1->Apart b (p++true::x.1):=fun x hx=>by have:=aj (pre (p++[true]) x) (uk _ (cD.2 ⟨x,hx,rfl⟩));simpa[pre]using this);rcases GW (hA0 z0 hz0)with⟨x,rfl⟩|⟨q,s,x,y,rfl,rfl⟩;{cases x with|nil=>exfalso;rw[lO]at hA0;rcases hA0 z0 hz0 with h|⟨q,s,x,y,e1,e2⟩;{have:=congrArg se h;simp at this};.rw[e1]at e2;simp only[ik,fz,uj,kq]at e2;cases s<;>cases e2.1|cons s rest=>have e:=sO p (s::rest);simp only[T.iR,e,fg,if_false,xm];cases s with|true=>(have hr:∀z,z∈l1->Apart rest z.1:=fun z hz=>by have:=Apart.pre (hA1 z hz);exact Apart.pre (q:=[true]) this);(have e2:ins (p++true::rest) v (l0.map (pre (p++[false]))++l1.map (pre (p++[true])))=l0.map (pre (p++[false]))++(ins rest v l1).map (pre (p++[true])):=by rw[GM fun z hz=>by obtain⟨z,hz,rfl⟩:=cD.1 hz;rw[show(pre (p++[false]) z).1=p++(!true)::z.1 by simp[pre]];exact⟨yi p true rest _,yh p true rest _⟩];rw[show p++true::rest=(p++[true])++rest by simp,GL]);rw[e2];refine .branch p h0 ?_ a0 (ih1 rest v hr);exact GS _ _ _|false=>(have hr:∀z,z∈l0->Apart rest z.1:=fun z hz=>by have:=Apart.pre (hA0 z hz);exact Apart.pre (q:=[false]) this);(have e2:ins (p++false::rest) v (l0.map (pre (p++[false]))++l1.map (pre (p++[true])))=(ins rest v l0).map (pre (p++[false]))++l1.map (pre (p++[true])):=by rw[GN fun z hz=>by obtain⟨z,hz,rfl⟩:=cD.1 hz;rw[show(pre (p++[true]) z).1=p++(!false)::z.1 by simp[pre]];exact⟨yi p false rest _,yh p false rest _⟩];rw[show p++false::rest=(p++[false])++rest by simp,GL]);rw[e2];refine .branch p ?_ h1 (oS rest v hr) a1;exact GS _ _ _};.have e:=yg q s x y;(have hlt:q.length<(q++(!s)::x).length:=by simp);simp only[T.iR,e,if_pos hlt];exact GV (.branch _ h0 h1 a0 a1) (by simp[h0]) rfl
theorem OV{l:List (Bits×V)}{t:T V}(h:cF l t):∀(b:Bits),(∃x,x∈l/\x.1=b)->cF (del b l) (t.fY b):=by induction h with|empty=>rintro b ⟨x,hx,-⟩;cases hx|leaf p w=>rintro b ⟨x,hx,rfl⟩;rw[qz]at hx;subst hx;simp only[T.fY,del,List.filter_cons,List.filter_nil,bne_self_eq_false,ew,if_false];exact .empty|@branch l0 l1 t0 t1 p h0 h1 a0 a1 oS ih1=>rintro b ⟨x,hx,rfl⟩;rcases lN.1 hx with hx|hx<;>obtain⟨z,hz,rfl⟩:=cD.1 hx;{(have e1:(pre (p++[false]) z).1=p++false::z.1:=by simp[pre]);(have e2:del (p++false::z.1) (l0.map (pre (p++[false]))++l1.map (pre (p++[true])))=(del z.1 l0).map (pre (p++[false]))++l1.map (pre (p++[true])):=by have h3:=GU p z.1 false l1;rw[GO,show(p++[true])=p++[!false]from rfl,h3,show p++false::z.1=(p++[false])++z.1 by simp,GP]);have ih:=oS z.1 ⟨z,hz,rfl⟩;rw[e1,e2];simp only[T.fY,xm];by_cases he:(t0.fY z.1).isEmpty=true;{rw[if_pos he,(qR ih).1 he];exact GK a1 h1 _};.rw[if_neg he];exact .branch p (fun e=>he ((qR ih).2 e)) h1 ih a1};. (have e1:(pre (p++[true]) z).1=p++true::z.1:=by simp[pre]);(have e2:del (p++true::z.1) (l0.map (pre (p++[false]))++l1.map (pre (p++[true])))=l0.map (pre (p++[false]))++(del z.1 l1).map (pre (p++[true])):=by have h3:=GU p z.1 true l0;rw[GO,show(p++[false])=p++[!true]from rfl,h3,show p++true::z.1=(p++[true])++z.1 by simp,GP]);have ih:=ih1 z.1 ⟨z,hz,rfl⟩;rw[e1,e2];simp only[T.fY,xm];by_cases he:(t1.fY z.1).isEmpty=true;{rw[if_pos he,(qR ih).1 he,List.map_nil,lO];exact GK a0 h0 _};.rw[if_neg he];exact .branch p h0 (fun e=>he ((qR ih).2 e)) a0 ih
theorem yj{l:List (Bits×V)}{t:T V}(h:cF l t):∀(b:Bits),t.get b=look b l:=by induction h with|empty=>exact fun b=>rfl|leaf p w=>exact fun b=>rfl|@branch l0 l1 t0 t1 p h0 h1 a0 a1 oS ih1=>intro b;by_cases hp:p<+:b;{obtain⟨x,rfl⟩:=hp;simp only[T.get,List.prefix_append,if_true,xm];rw[GQ];cases x with|nil=>rw[sN,sN];{rfl};{intro y hy;obtain⟨y,_,rfl⟩:=cD.1 hy;simp[pre]};.intro y hy;obtain⟨y,_,rfl⟩:=cD.1 hy;simp[pre]|cons s rest=>cases s with|true=>rw[show p++true::rest=(p++[true])++rest by simp,GR,sN fun y hy=>?_];{simp[ih1]};.obtain⟨y,_,rfl⟩:=cD.1 hy;simp[pre]|false=>rw[show p++false::rest=(p++[false])++rest by simp,GR,sN (l:=l1.map _) fun y hy=>?_];{simp[oS]};.obtain⟨y,_,rfl⟩:=cD.1 hy;simp[pre]};.simp only[T.get,if_neg hp];rw[GQ,sN fun y hy=>?_,sN fun y hy=>?_];{rfl};{obtain⟨y,_,rfl⟩:=cD.1 hy;rintro rfl;exact hp ⟨true::y.1,by simp[pre]⟩};.obtain⟨y,_,rfl⟩:=cD.1 hy;rintro rfl;exact hp ⟨false::y.1,by simp[pre]⟩
theorem GX{l:List (Bits×V)}{t:T V}(h:cF l t):∀(above:Bits),t.walk above=l.map (pre above):=by induction h with|empty=>exact fun _=>rfl|leaf p w=>exact fun _=>rfl|@branch l0 l1 t0 t1 p h0 h1 a0 a1 oS ih1=>intro above;simp only[T.walk,oS,ih1,nT,uP,ik]
theorem OW{l:List (Bits×V)}{t:T V}(h:cF l t):∀{t':T V},cF l t'->t=t':=by induction h with|empty=>intro t' h';exact((GJ h').1 rfl).symm|leaf p w=>intro t' h';generalize e:[(p,w)]=l at h';(cases h' with|empty=>cases e|leaf p' w'=>cases e;rfl|@branch l0 l1 _ _ q h0 h1 _ _=>exfalso;have:=congrArg se e;simp at this;have a:=qB.2 h0;have b:=qB.2 h1;omega)|@branch l0 l1 t0 t1 p h0 h1 a0 a1 oS ih1=>intro t' h';generalize e:l0.map (pre (p++[false]))++l1.map (pre (p++[true]))=l at h';cases h' with|empty=>simp[h0]at e|leaf p' w'=>exfalso;have:=congrArg se e;simp at this;have a:=qB.2 h0;have b:=qB.2 h1;omega|@branch m0 m1 s0 s1 q k0 k1 jg bK=>(have hside:∀(a b:Bits)(A0 A1 B0 B1:List (Bits×V)),A0.map (pre (a++[false]))++A1.map (pre (a++[true]))=B0.map (pre (b++[false]))++B1.map (pre (b++[true]))->A0≠[]->A1≠[]->B0≠[]->B1≠[]->∀s x,b≠a++s::x:=by rintro a b A0 A1 B0 B1 e hA0 hA1 hB0 hB1 s x rfl;(have hin:∀(r:Bool)z,z∈(if r then A1 else A0)->r=s:=fun r z hz=>by(have hm:pre (a++[r]) z∈A0.map (pre (a++[false]))++A1.map (pre (a++[true])):=by cases r;{exact mY _ (cD.2 ⟨z,hz,rfl⟩)};.exact uk _ (cD.2 ⟨z,hz,rfl⟩));rw[e]at hm;rcases lN.1 hm with hm|hm<;>obtain⟨y,_,e2⟩:=cD.1 hm;{have:=congrArg Prod.fst e2;simp[pre]at this;exact this.1.symm};.have:=congrArg Prod.fst e2;simp[pre]at this;exact this.1.symm);obtain⟨z0,hz0⟩:=MM _ hA0;obtain⟨pH,hz1⟩:=MM _ hA1;have e0:=hin false z0 hz0;have e1:=hin true pH hz1;rw[<-e1]at e0;cases e0);(have hpq:p=q:=by rcases sP p q with⟨x,rfl⟩|⟨r,s,x,y,rfl,rfl⟩|⟨s,x,rfl⟩;{cases x with|nil=>simp|cons s x=>exact absurd rfl (hside p _ _ _ _ _ e h0 h1 k0 k1 s x)};{exfalso;obtain⟨z0,hz0⟩:=MM _ h0;(have hm:pre (r++(!s)::x++[false]) z0∈m0.map (pre (r++s::y++[false]))++m1.map (pre (r++s::y++[true])):=by rw[<-e];exact mY _ (cD.2 ⟨z0,hz0,rfl⟩));rcases lN.1 hm with hm|hm<;>obtain⟨z,_,e2⟩:=cD.1 hm;{have:=congrArg Prod.fst e2;simp[pre]at this};.have:=congrArg Prod.fst e2;simp[pre]at this};.exact absurd rfl (hside q _ _ _ _ _ e.symm k0 k1 h0 h1 s x));subst hpq;(have hfil:∀(A0 A1:List (Bits×V)),(A0.map (pre (p++[false]))++A1.map (pre (p++[true]))).filter (fun z=>(z.1.drop p.length).headD true==false)=A0.map (pre (p++[false]))/\(A0.map (pre (p++[false]))++A1.map (pre (p++[true]))).filter (fun z=>(z.1.drop p.length).headD false==true)=A1.map (pre (p++[true])):=fun A0 A1=>by refine⟨?_, ?_⟩;{rw[MN,Fl.2,ZV.2,lO];{intro z hz;obtain⟨y,_,rfl⟩:=cD.1 hz;simp[pre]};.intro z hz;obtain⟨y,_,rfl⟩:=cD.1 hz;simp[pre]};.rw[MN,ZV.2,Fl.2,ko];{intro z hz;obtain⟨y,_,rfl⟩:=cD.1 hz;simp[pre]};.intro z hz;obtain⟨y,_,rfl⟩:=cD.1 hz;simp[pre]);(have hinj:∀(q:Bits)(A B:List (Bits×V)),A.map (pre q)=B.map (pre q)->A=B:=fun q A B e=>by refine(ZW fun x y h=>?_).1 e;simp only[pre,Prod.mk.injEq,uj]at h;exact Prod.ext h.1 h.2);have f0:l0=m0:=hinj (p++[false]) _ _ (by rw[<-(hfil l0 l1).1,e,(hfil m0 m1).1]);have f1:l1=m1:=hinj (p++[true]) _ _ (by rw[<-(hfil l0 l1).2,e,(hfil m0 m1).2]);subst f0 f1;rw[oS jg,ih1 bK]
end Go.bQ
namespace Go.bQ
open Go Go.bq
def eO(b:Bool):UInt8:=if b then 49 else 48
def str(p:Bits):ByteArray:=⟨(p.map eO).toArray⟩
theorem GY{a b:Bool}(h:eO a=eO b):a=b:=by cases a<;>cases b<;>first|rfl|cases h
theorem GZ(b:Bool):(eO b).toNat=48+b.toNat:=by cases b<;>rfl
theorem oh(p:Bits):(str p).data.toList=p.map eO:=by simp[str]
theorem dA(p:Bits):(str p).size=p.length:=by simp[str,xn]
theorem pI{a b:ByteArray}(h:a.data.toList=b.data.toList):a=b:=by cases a;cases b;simp only at h;rw[Array.toList_inj.1 h]
theorem BQ(p:Bits)(k:Nat):(str p).extract 0 k=str (p.take k):=pI (by rw[Fo,Array.toList_extract,oh,oh,MP,List.map_take];simp)
theorem OX(p:Bits)(k:Nat):(str p).extract k p.length=str (p.drop k):=pI (by rw[Fo,Array.toList_extract,oh,oh,MP,List.map_drop];exact List.take_of_length_le (by simp))
theorem sR(p q:Bits):str p++str q=str (p++q):=pI (by rw[ByteArray.data_append,Array.toList_append,oh,oh,oh,nT])
theorem str_inj{p q:Bits}(h:str p=str q):p=q:=by have:=congrArg (·.data.toList) h;simp only[oh]at this;exact(ZW fun _ _ h=>GY h).1 this
theorem sS(p:Bits)(i:Nat)(h:i<(str p).size):(str p)[i]=eO (p[i]'(by rw[dA]at h;exact h)):=by
 have:(str p).data.toList[i]?=some ((str p)[i]):=by rw[Array.getElem?_toList,ByteArray.getElem_eq_getElem_data];exact Array.getElem?_eq_getElem h
 rw[oh]at this;have hi:i<p.length:=by rw[dA]at h;exact h
 simp[hi]at this;exact this.symm
theorem OY(s:Bool)(p:Bits)(h:0<(str (s::p)).size):(str (s::p))[0]=eO s:=sS _ _ h
def T.aT:T ByteArray->aF| .empty=> .empty| .leaf p v=> .leaf (str p) v| .branch p l r=> .branch (str p) l.aT r.aT
theorem yk:∀(a b:Bits),share a b<=a.length/\share a b<=b.length|[],b=>by simp[share]|a::as,[]=>by simp[share]|a::as,b::bs=>by have:=yk as bs;simp only[share,fh];split<;>omega
theorem G2:∀(a b:Bits)(i:Nat),i<share a b->a[i]?=b[i]?|[],b,i,h=>by simp[share]at h|a::as,[],i,h=>by simp[share]at h|a::as,b::bs,i,h=>by simp only[share]at h;split at h;{rename_i e;subst e;cases i with|zero=>rfl|succ i=>simp only[po];exact G2 as bs i (by omega)};.omega
theorem G5:∀(a b:Bits),share a b<a.length->share a b<b.length->a[share a b]?≠b[share a b]?|[],b,h,_=>by simp[share]at h|a::as,[],h,k=>by simp at k|a::as,b::bs,h,k=>by simp only[share]at h k⊢;split at h;{rename_i e;subst e;simp only[if_true]at k⊢;simp only[po];exact G5 as bs (by simpa using h) (by simpa using k)};.rename_i e;simp only[if_neg e,List.getElem?_cons_zero,ne_eq,Option.some.injEq];exact e
def eZ(c:UInt8)(i:Nat):Bool:=c.toNat/2^i%2==1
def eight(c:UInt8):Bits:=[eZ c 7,eZ c 6,eZ c 5,eZ c 4,eZ c 3,eZ c 2,eZ c 1,eZ c 0]
def fM:List UInt8->Bits|[]=>[]|c::l=>true::(eight c++fM l)
def kb(l:List UInt8):Bits:=fM l++[false]
theorem OZ(a b:List UInt8):fM (a++b)=fM a++fM b:=by induction a with|nil=>rfl|cons c a ih=>simp[fM,ih]
theorem BR(l:List UInt8):(fM l).length=9*l.length:=by induction l with|nil=>rfl|cons c l ih=>simp[fM,eight,ih];omega
theorem qS(l:List UInt8):(kb l).length=9*l.length+1:=by simp[kb,BR]
theorem yl(n:Nat)(h:n<256):n=n/2^7%2*128+n/2^6%2*64+n/2^5%2*32+n/2^4%2*16+n/2^3%2*8+n/2^2%2*4+n/2^1%2*2+n/2^0%2:=by simp only[Nat.reducePow];omega
theorem pJ{a b:UInt8}{i:Nat}(h:eZ a i=eZ b i):a.toNat/2^i%2=b.toNat/2^i%2:=by unfold eZ at h;(have h1:(a.toNat/2^i%2=1)↔(b.toNat/2^i%2=1):=by constructor;{intro e;rw[beq_iff_eq.2 e]at h;exact beq_iff_eq.1 h.symm};.intro e;rw[beq_iff_eq.2 e]at h;exact beq_iff_eq.1 h);omega
theorem G6{a b:UInt8}(h:eight a=eight b):a=b:=by simp only[eight,kq,and_true]at h;obtain⟨h7,h6,h5,h4,h3,h2,h1,h0⟩:=h;apply UInt8.toNat_inj.1;rw[yl a.toNat a.toNat_lt,yl b.toNat b.toNat_lt,pJ h7,pJ h6,pJ h5,pJ h4,pJ h3,pJ h2,pJ h1,pJ h0]
theorem G7:∀(a b:Bits),a.length=b.length->a≠b->∃q s x y,a=q++s::x/\b=q++(!s)::y|[],[],_,h=>absurd rfl h|a::as,b::bs,hl,h=>by by_cases e:a=b;{subst e;(have hl':as.length=bs.length:=by simpa using hl);obtain⟨q,s,x,y,rfl,rfl⟩:=G7 as bs hl' (fun e=>h (by rw[e]));exact⟨a::q,s,x,y,rfl,rfl⟩};.refine⟨[],a,as,bs,rfl, ?_⟩;cases a<;>cases b<;>first|rfl|exact absurd rfl e
theorem BS:∀(a b:List UInt8),a≠b->∃q s x y,kb a=q++s::x/\kb b=q++(!s)::y|[],[],h=>absurd rfl h|[],c::b,_=>⟨[],false,[],eight c++kb b,rfl,by simp[kb,fM]⟩|c::a,[],_=>⟨[],true,eight c++kb a,[],by simp[kb,fM],rfl⟩|c::a,d::b,h=>by by_cases e:c=d;{subst e;obtain⟨q,s,x,y,h1,h2⟩:=BS a b (fun e=>h (by rw[e]));refine⟨true::(eight c++q),s,x,y, ?_, ?_⟩;{show true::(eight c++fM a)++[false]=_;rw[fz,ik,show fM a++[false]=kb a from rfl,h1];simp};.show true::(eight c++fM b)++[false]=_;rw[fz,ik,show fM b++[false]=kb b from rfl,h2];simp};.obtain⟨q,s,x,y,h1,h2⟩:=G7 (eight c) (eight d) rfl (fun h=>e (G6 h));refine⟨true::q,s,x++kb a,y++kb b, ?_, ?_⟩;{show true::(eight c++fM a)++[false]=_;rw[fz,ik,show fM a++[false]=kb a from rfl,h1];simp};.show true::(eight d++fM b)++[false]=_;rw[fz,ik,show fM b++[false]=kb b from rfl,h2];simp
theorem BT{a b:List UInt8}(h:kb a=kb b):a=b:=by by_cases e:a=b;{exact e};.obtain⟨q,s,x,y,h1,h2⟩:=BS a b e;rw[h1,h2]at h;simp at h
theorem G8(a b:List UInt8):Apart (kb a) (kb b):=by by_cases e:a=b;{subst e;exact .inl rfl};.obtain⟨q,s,x,y,h1,h2⟩:=BS a b e;exact .inr ⟨q,s,x,y,h1,h2⟩
def dB:List UInt8->List UInt8->Bool|[],[]=>false|[],_::_=>true|_::_,[]=>false|a::as,b::bs=>if a=b then dB as bs else decide (a.toNat<b.toNat)
theorem O0(a:List UInt8):dB a a=false:=by induction a with|nil=>rfl|cons c a ih=>simp[dB,ih]
theorem BU:∀{a b:List UInt8},dB a b=true->dB b a=false|[],[],h=>rfl|[],_::_,_=>rfl|_::_,[],h=>by cases h|c::a,d::b,h=>by simp only[dB]at h⊢;by_cases e:c=d;{subst e;rw[if_pos rfl]at h⊢;exact BU h};.rw[if_neg e]at h;rw[if_neg (dt e)];have:=of_decide_eq_true h;exact decide_eq_false (by omega)
theorem ym:∀{a b c:List UInt8},dB a b=true->dB b c=true->dB a c=true|[],[],_,h,_=>by cases h|[],_::_,[],_,h=>by cases h|[],_::_,_::_,_,_=>rfl|_::_,[],_,h,_=>by cases h|_::_,_::_,[],_,h=>by cases h|x::a,y::b,z::c,h,k=>by simp only[dB]at h k⊢;by_cases e:x=y;{subst e;rw[if_pos rfl]at h;by_cases e2:x=z;{subst e2;rw[if_pos rfl]at k⊢;exact ym h k};.rw[if_neg e2]at k⊢;exact k};.rw[if_neg e]at h;have h1:=of_decide_eq_true h;by_cases e2:y=z;{subst e2;rw[if_neg e];exact h};.rw[if_neg e2]at k;have h2:=of_decide_eq_true k;(have e3:x≠z:=fun e=>by subst e;omega);rw[if_neg e3];exact decide_eq_true (by omega)
theorem yn:∀(a b:List UInt8),dB a b=false->dB b a=false->a=b|[],[],_,_=>rfl|[],_::_,h,_=>by cases h|_::_,[],_,h=>by cases h|c::a,d::b,h,k=>by simp only[dB]at h k;by_cases e:c=d;{subst e;rw[if_pos rfl]at h k;rw[yn a b h k]};.rw[if_neg e]at h;rw[if_neg (dt e)]at k;have h1:=of_decide_eq_false h;have h2:=of_decide_eq_false k;exact absurd (UInt8.toNat_inj.1 (by omega)) e
theorem uQ{a b:List UInt8}(h:dB a b=true):a≠b:=fun e=>by subst e;rw[O0]at h;cases h
def nj:Bits->Nat|[]=>0|b::q=>b.toNat*2^q.length+nj q
theorem G9(q:Bits):nj q<2^q.length:=by induction q with|nil=>simp[nj]|cons a q ih=>simp only[nj,fh,Nat.pow_succ];cases a<;>simp only[Fp,Fq,Fs,AW]<;>omega
theorem Ha:∀(p q x y:Bits),p.length=q.length->p≠q->blt (p++x) (q++y)=decide (nj p<nj q)|[],[],_,_,_,h=>absurd rfl h|a::p,b::q,x,y,hl,h=>by(have hl':p.length=q.length:=by simpa using hl);have h1:=G9 p;have h2:=G9 q;simp only[fz,blt];by_cases e:a=b;{subst e;rw[if_pos rfl,Ha p q x y hl' (fun e=>h (by rw[e]))];refine decide_eq_decide.2 ?_;simp only[nj];rw[hl'];omega};.rw[if_neg e];cases a<;>cases b;{exact absurd rfl e};{refine(decide_eq_true ?_).symm;simp only[nj,Fp,Fq,Fs,AW];rw[hl']at h1;omega};{refine(decide_eq_false ?_).symm;simp only[nj,Fp,Fq,Fs,AW];rw[<-hl']at h2;omega};.exact absurd rfl e
theorem Hb(c:UInt8):nj (eight c)=c.toNat:=by have h:=yl c.toNat c.toNat_lt;(have hb:∀n:Nat,(n%2==1).toNat=n%2:=fun n=>by rcases Nat.mod_two_eq_zero_or_one n with e|e<;>rw[e]<;>rfl);simp only[eight,nj,eZ,hb,fh,List.length_nil];simp only[Nat.reducePow,Nat.reduceAdd]at h⊢;omega
theorem Hc : ∀ (a b : List UInt8), blt (kb a) (kb b) = dB a b
 | [], [] => rfl
 | [], _ :: _ => rfl
 | _ :: _, [] => rfl
 | c :: a, d :: b => by
   have e1 : kb (c :: a) = true :: (eight c ++ kb a) := by simp [kb, fM]
   have e2 : kb (d :: b) = true :: (eight d ++ kb b) := by simp [kb, fM]
   rw [e1, e2]
   simp only [blt, if_true, dB]
   by_cases e : c = d
   . subst e; rw [if_pos rfl, BO, Hc a b]
   . rw [if_neg e, Ha (eight c) (eight d) _ _ rfl (fun h => e (G6 h)), Hb, Hb]
variable{V:Type}
abbrev gm(V:Type):=List (List UInt8×V)
def toBits(l:gm V):List (Bits×V):=l.map fun x=>(kb x.1,x.2)
def iI(l:gm V):Prop:=l.Pairwise fun x y=>dB x.1 y.1=true
def eL(k:List UInt8)(l:gm V):gm V:=l.filter fun x=>x.1 !=k
def dX(k:List UInt8)(v:V)(l:gm V):gm V:=(eL k l).takeWhile (fun x=>dB x.1 k)++(k,v)::(eL k l).dropWhile (fun x=>dB x.1 k)
def bj(k:List UInt8):gm V->Option V|[]=>none|x::l=>if x.1=k then some x.2 else bj k l
theorem Hd{k:List UInt8}{l:gm V}(h:∀x,x∈l->x.1≠k):eL k l=l:=Fl.2 fun x hx=>bne_iff_ne.2 (h x hx)
theorem BV{k:List UInt8}{x:List UInt8×V}{l:gm V}(h:x.1≠k):eL k (x::l)=x::eL k l:=ZX (bne_iff_ne.2 h)
theorem BW{k:List UInt8}{x:List UInt8×V}{l:gm V}(h:x.1=k):eL k (x::l)=eL k l:=ZY (by simp[h])
theorem O1{k:List UInt8}{l:gm V}(h:∀x,x∈l->dB x.1 k=false):l.takeWhile (fun x=>dB x.1 k)=[]/\l.dropWhile (fun x=>dB x.1 k)=l:=by cases l with|nil=>exact⟨rfl,rfl⟩|cons x l=>have:=h x db;exact⟨List.takeWhile_cons_of_neg (by rw[this];decide),List.dropWhile_cons_of_neg (by rw[this];decide)⟩
theorem yo{k:List UInt8}{v:V}{l:gm V}(h:∀x,x∈l->dB k x.1=true):dX k v l=(k,v)::l:=by have h1:eL k l=l:=Hd fun x hx=>(uQ (h x hx)).symm;obtain⟨h2,h3⟩:=O1 (k:=k) (l:=l) fun x hx=>BU (h x hx);unfold dX;rw[h1,h2,h3];rfl
theorem BX{k:List UInt8}{v:V}{y:List UInt8×V}{l:gm V}(he:y.1=k)(h:∀x,x∈l->dB k x.1=true):dX k v (y::l)=(k,v)::l:=by have:=yo (v:=v) h;unfold dX at this⊢;rw[BW he];exact this
theorem BY{k:List UInt8}{v:V}{y:List UInt8×V}{l:gm V}(h:dB y.1 k=true):dX k v (y::l)=y::dX k v l:=by unfold dX;rw[BV (uQ h),List.takeWhile_cons_of_pos (p:=fun x=>dB x.1 k) (a:=y) h,List.dropWhile_cons_of_pos (p:=fun x=>dB x.1 k) (a:=y) h];rfl
theorem O2{k:List UInt8}{v:V}{l:gm V}(hr:iI l):toBits (dX k v l)=ins (kb k) v (toBits l):=by induction l with|nil=>rfl|cons y l ih=>obtain⟨hy,hl⟩:=qE.1 hr;show toBits (dX k v (y::l))=ins (kb k) v ((kb y.1,y.2)::toBits l);simp only[ins];by_cases e:y.1=k;{rw[if_pos (by rw[e]),BX e fun x hx=>e▸hy x hx];rfl};.rw[if_neg (fun h=>e (BT h).symm),Hc];cases h:dB k y.1 with|true=>rw[if_pos rfl,yo (fun x hx=>by rcases cP.1 hx with rfl|hx;{exact h};.exact ym h (hy x hx))];rfl|false=>(have h2:dB y.1 k=true:=by cases h3:dB y.1 k with|true=>rfl|false=>exact absurd (yn _ _ h3 h) e);rw[if_neg (by decide),BY h2,<-ih hl];rfl
theorem O3(k:List UInt8)(l:gm V):toBits (eL k l)=del (kb k) (toBits l):=by induction l with|nil=>rfl|cons y l ih=>by_cases e:y.1=k;{rw[BW e,ih];show _=del (kb k) ((kb y.1,y.2)::toBits l);unfold del;rw[ZY (by simp[e])]};.rw[BV e];show(kb y.1,y.2)::toBits (eL k l)=del (kb k) ((kb y.1,y.2)::toBits l);have e2:kb y.1≠kb k:=fun h=>e (BT h);unfold del at ih⊢;rw[ZX (by simpa using e2),ih]
theorem He(k:List UInt8)(l:gm V):look (kb k) (toBits l)=bj k l:=by induction l with|nil=>rfl|cons y l ih=>show look (kb k) ((kb y.1,y.2)::toBits l)=_;simp only[look,bj];by_cases e:y.1=k;{rw[if_pos (by rw[e]),if_pos e]};.rw[if_neg (fun h=>e (BT h)),if_neg e,ih]
theorem iI.fY{k:List UInt8}{l:gm V}(h:iI l):iI (eL k l):=List.Pairwise.sublist List.filter_sublist h
theorem yp{k:List UInt8}{v:V}:∀{l:gm V},bj k l=some v->(k,v)∈l|[],h=>by cases h|x::l,h=>by simp only[bj]at h;by_cases e:x.1=k;{rw[if_pos e]at h;cases h;subst e;exact db};.rw[if_neg e]at h;exact eX _ (yp h)
theorem uR{k:List UInt8}:∀{l:gm V},bj k l=none↔∀x,x∈l->x.1≠k|[]=>by simp[bj]|x::l=>by simp only[bj];by_cases e:x.1=k;{rw[if_pos e];constructor;{intro h;cases h};.intro h;exact absurd e (h x db)};.rw[if_neg e,uR];constructor;{intro h y hy;rcases cP.1 hy with rfl|hy;{exact e};.exact h y hy};.intro h y hy;exact h y (eX _ hy)
theorem uS(k j:List UInt8)(l:gm V):bj j (eL k l)=if j=k then none else bj j l:=by induction l with|nil=>simp[eL,bj]|cons y l ih=>by_cases e:y.1=k;{rw[BW e,ih];by_cases e2:j=k;{rw[if_pos e2,if_pos e2]};.rw[if_neg e2,if_neg e2];simp only[bj];rw[if_neg (fun h=>e2 (h.symm.trans e))]};.rw[BV e];simp only[bj];by_cases e2:y.1=j;{rw[if_pos e2,if_pos e2,if_neg (fun h=>e (e2.trans h))]};.rw[if_neg e2,if_neg e2,ih]
theorem Hf{k:List UInt8}{v:V}{l:gm V}{x:List UInt8×V}(h:x∈dX k v l):x=(k,v)\/(x∈l/\x.1≠k):=by unfold dX at h;have hs:∀y,y∈eL k l->y∈l/\y.1≠k:=fun y hy=>⟨(List.mem_filter.1 hy).1,bne_iff_ne.1 (List.mem_filter.1 hy).2⟩;rcases lN.1 h with h|h;{exact .inr (hs _ (List.takeWhile_sublist _|>.mem h))};.rcases cP.1 h with h|h;{exact .inl h};.exact .inr (hs _ (List.dropWhile_sublist _|>.mem h))
theorem iI.put{k:List UInt8}{v:V}{l:gm V}(hr:iI l):iI (dX k v l):=by induction l with|nil=>exact qE.2 ⟨fun _ h=>absurd h List.not_mem_nil,List.Pairwise.nil⟩|cons y l ih=>obtain⟨hy,hl⟩:=qE.1 hr;by_cases e:y.1=k;{rw[BX e fun x hx=>e▸hy x hx];exact qE.2 ⟨fun x hx=>e▸hy x hx,hl⟩};.cases h:dB k y.1 with|true=>(have hall:∀x,x∈y::l->dB k x.1=true:=fun x hx=>by rcases cP.1 hx with rfl|hx;{exact h};.exact ym h (hy x hx));rw[yo hall];exact qE.2 ⟨hall,hr⟩|false=>(have h2:dB y.1 k=true:=by cases h3:dB y.1 k with|true=>rfl|false=>exact absurd (yn _ _ h3 h) e);rw[BY h2];refine qE.2 ⟨fun x hx=>?_,ih hl⟩;rcases Hf hx with rfl|⟨hx,_⟩;{exact h2};.exact hy x hx
theorem uT(k j:List UInt8)(v:V){l:gm V}(hr:iI l):bj j (dX k v l)=if j=k then some v else bj j l:=by induction l with|nil=>show bj j [(k,v)]=_;simp only[bj];by_cases e:k=j;{rw[if_pos e,if_pos e.symm]};.rw[if_neg e,if_neg (dt e)]|cons y l ih=>obtain⟨hy,hl⟩:=qE.1 hr;by_cases e:y.1=k;{rw[BX e fun x hx=>e▸hy x hx];simp only[bj];by_cases e2:k=j;{rw[if_pos e2,if_pos e2.symm]};.rw[if_neg e2,if_neg (dt e2),if_neg (fun h=>e2 (e.symm.trans h))]};.cases h:dB k y.1 with|true=>rw[yo (fun x hx=>by rcases cP.1 hx with rfl|hx;{exact h};.exact ym h (hy x hx))];show(if k=j then some v else bj j (y::l))=_;by_cases e2:k=j;{rw[if_pos e2,if_pos e2.symm]};.rw[if_neg e2,if_neg (dt e2)]|false=>(have h2:dB y.1 k=true:=by cases h3:dB y.1 k with|true=>rfl|false=>exact absurd (yn _ _ h3 h) e);rw[BY h2];simp only[bj];rw[ih hl];by_cases e2:y.1=j;{rw[if_pos e2,if_pos e2,if_neg (fun h=>e (e2.trans h))]};.rw[if_neg e2,if_neg e2]
theorem yq : ∀ {a b : gm V}, iI a -> iI b -> (∀ k, bj k a = bj k b) -> a = b
 | [], [], _, _, _ => rfl
 | [], y :: b, _, _, h => by have := h y.1; simp [bj] at this
 | x :: a, [], _, _, h => by have := h x.1; simp [bj] at this
 | x :: a, y :: b, ha, hb, h => by
   obtain ⟨hx, ha'⟩ := qE.1 ha
   obtain ⟨hy, hb'⟩ := qE.1 hb
   have e : x.1 = y.1 := by
     by_cases e : x.1 = y.1
     . exact e
     . exfalso
       have h1 := h x.1
       have h2 := h y.1
       simp only [bj] at h1 h2
       rw [if_pos trivial, if_neg (dt e)] at h1
       rw [if_pos trivial, if_neg e] at h2
       have m1 := hy _ (yp h1.symm)
       have m2 := hx _ (yp h2)
       have := BU m1
       rw [show dB x.1 y.1 = true from m2] at this
       cases this
   have ev : x.2 = y.2 := by
     have h1 := h x.1
     simp only [bj] at h1
     rw [if_pos trivial, if_pos e.symm] at h1
     exact Option.some.inj h1
   have exy : x = y := Prod.ext e ev
   subst exy
   congr 1
   refine yq ha' hb' fun k => ?_
   have hk := h k
   simp only [bj] at hk
   by_cases ek : x.1 = k
   . have df : bj k a = none := uR.2 fun z hz e2 => uQ (hx z hz) (ek.trans e2.symm)
     have gy : bj k b = none := uR.2 fun z hz e2 => uQ (hy z hz) (ek.trans e2.symm)
     rw [df, gy]
   . rw [if_neg ek, if_neg ek] at hk; exact hk
