/- SEALED TREES: what is. -/
import Derived.Test.YtddcbeeldjjmeaaGreatDoorP34
import Derived.Test.YtddcbeeldjjmeaaGreatDoorP22
open Go renaming World->aa
open List renaming length_append->cm,mem_cons_self->db,mem_map->cD
namespace Go.Proofs.YtddcbeeldjjmeaaGreatDoor
open Go Go.RowKit Go.bq Go.bQ au Go.Maps Go.Sort Go.Shelf Go.Eq
set_option linter.unusedVariables false
set_option linter.unusedSimpArgs false
theorem JK(p:Bits)(h:p.length<=37):bp.ji (str p).data.toList=true:=by rw[oh];unfold bp.ji;simp only[Bool.and_eq_true,decide_eq_true_eq,List.length_map,List.all_eq_true];refine⟨fun x hx=>?_,h⟩;obtain⟨b,_,rfl⟩:=cD.1 hx;cases b<;>decide
theorem Tk:∀{L:List (Bits×ByteArray)}{t:T ByteArray},cF L t->(∀x,x∈L->x.1.length<=37/\x.2.size<=20)->j5 t.aT:=by intro L t h;induction h with|empty=>exact fun _=>trivial|leaf p v=>exact fun h=>⟨JK p (h (p,v) db).1,(h (p,v) db).2⟩|@branch l0 l1 t0 t1 p n0 df r0 cq i0 i1=>intro h;have h0:∀x,x∈l0->(p++[false]++x.1).length<=37/\x.2.size<=20:=fun x hx=>h (pre (p++[false]) x) (List.mem_append_left _ (cD.2 ⟨x,hx,rfl⟩));have h1:∀x,x∈l1->(p++[true]++x.1).length<=37/\x.2.size<=20:=fun x hx=>h (pre (p++[true]) x) (List.mem_append_right _ (cD.2 ⟨x,hx,rfl⟩));obtain⟨z,hz⟩:=sQ r0 n0;refine⟨JK p (by have:=(h0 z hz).1;simp only[cm]at this;omega),i0 fun x hx=>?_,i1 fun x hx=>?_⟩;{exact⟨by have:=(h0 x hx).1;simp only[cm]at this;omega,(h0 x hx).2⟩};.exact⟨by have:=(h1 x hx).1;simp only[cm]at this;omega,(h1 x hx).2⟩
theorem Row.wf{B:aw}{t:T ByteArray}(hB:Row B)(hr:cF B.bits t):j5 t.aT:=by refine Tk hr fun x hx=>?_;obtain⟨y,hy,rfl⟩:=cD.1 hx;have h1:=hB.keys y hy;have h2:=(kall_size _ h1.1).2;exact⟨by show(kb y.1).length<=37;rw[qS];omega,h1.2⟩
theorem vW{dg:cW}{R:Nat->Prop}{w:aa}:∀{t:aF}{b:Nat},bA bI dg R w t b->bG bI dg R w t b| .branch _ _ _,_,⟨h1,bl,br,h2,h3,h4⟩=>⟨h1,bl,br,_,true,h2,vW h3,vW h4,fun _=>⟨rfl,h3,h4⟩⟩| .empty,_,⟨h1,h2⟩=>⟨h1,_,true,h2,fun _=>rfl⟩| .leaf _ _,_,⟨h1,h2⟩=>⟨h1,_,true,h2,fun _=>rfl⟩
theorem JL{dg:cW}{R:Nat->Prop}{w:aa}:∀{t:aF}{b:Nat},bA bI dg R w t b->∃l r,aS bI w b t.kind t.path t.value l r (aF.b3 dg t) true| .branch _ _ _,_,⟨h1,bl,br,h2,h3,h4⟩=>⟨_,_,h2⟩| .empty,_,⟨h1,h2⟩=>⟨_,_,h2⟩| .leaf _ _,_,⟨h1,h2⟩=>⟨_,_,h2⟩
structure bx(K:Nat->Prop)(w w':aa):Prop where
 os:w'.os=w.os
 size:w.heap.size<=w'.heap.size
 block:∀k,k<w.heap.size->¬K k->w'.heap[k]?=w.heap[k]?
theorem bx.refl{K:Nat->Prop}(w:aa):bx K w w:=⟨rfl,Nat.le_refl _,fun _ _ _=>rfl⟩
theorem bx.trans{K:Nat->Prop}{w w' w'':aa}(h:bx K w w')(k:bx K w' w''):bx K w w'':=⟨k.os.trans h.os,Nat.le_trans h.size k.size,fun i hi hn=>(k.block i (Nat.lt_of_lt_of_le hi h.size) hn).trans (h.block i hi hn)⟩
theorem bx.mono{K K':Nat->Prop}{w w':aa}(h:bx K w w')(hk:∀k,k<w.heap.size->K k->K' k):bx K' w w':=⟨h.os,h.size,fun i hi hn=>h.block i hi fun e=>hn (hk i hi e)⟩
theorem bx.below{K:Nat->Prop}{w w':aa}(h:Below w.heap.size w w'):bx K w w':=⟨h.os,h.size,fun k hk _=>h.block k hk⟩
theorem bx.Tl{K:Nat->Prop}{w w':aa}(h:IJ w w'):bx K w w':=⟨h.os,h.size,fun k hk _=>h.old k hk⟩
theorem bx.kept{K:Nat->Prop}{w w':aa}(h:Kept K w w'):bx K w w':=⟨h.os,h.size,h.block⟩
theorem bx.grown{w w':aa}{b:Option Nat}(h:w.grownBy w' b):bx (fun k=>some k=b) w w':=⟨h.os,h.size,fun k hk hn=>h.block k hk hn⟩
def oB(w:aa)(k:Nat):Prop:=∀cs aD,w.heap[k]?≠some (.cells cs bI aD)
theorem bx.node{K:Nat->Prop}{w w':aa}(h:bx K w w')(hK:∀k,K k->oB w k){b:Nat}{kd:Int}{p v:ByteArray}{l r:Option Addr}{d:Int}{s:Bool}(hN:aS bI w b kd p v l r d s):aS bI w' b kd p v l r d s:=by obtain⟨aD,e⟩:=hN;exact⟨aD,(h.block b (Array.getElem?_eq_some_iff.1 e).1 fun hk=>hK b hk _ _ e).trans e⟩
theorem bx.j9{dg:cW}{K:Nat->Prop}{w w':aa}(h:bx K w w')(hK:∀k,K k->oB w k):∀{t:aF}{b:Nat},bA bI dg fl w t b->bA bI dg fl w' t b| .branch _ _ _,_,⟨h1,bl,br,h2,h3,h4⟩=>⟨h1,bl,br,h.node hK h2,h.j9 hK h3,h.j9 hK h4⟩| .empty,_,⟨h1,h2⟩=>⟨h1,h.node hK h2⟩| .leaf _ _,_,⟨h1,h2⟩=>⟨h1,h.node hK h2⟩
theorem bx.eP{dg:cW}{K:Nat->Prop}{w w':aa}(h:bx K w w')(hK:∀k,K k->oB w k):∀{t:aF}{b:Nat},bG bI dg fl w t b->bG bI dg fl w' t b| .branch _ _ _,_,⟨h1,bl,br,d,s,h2,h3,h4,h5⟩=>⟨h1,bl,br,d,s,h.node hK h2,h.eP hK h3,h.eP hK h4,fun x=>⟨(h5 x).1,h.j9 hK (h5 x).2.1,h.j9 hK (h5 x).2.2⟩⟩| .empty,_,⟨h1,d,s,h2,h3⟩=>⟨h1,d,s,h.node hK h2,h3⟩| .leaf _ _,_,⟨h1,d,s,h2,h3⟩=>⟨h1,d,s,h.node hK h2,h3⟩
theorem cu.o6{w:aa}{s bb cb vb:Nat}{wd nw:Int}(h:cu w s wd bb cb vb nw):oB w s:=by intro cs aD e;unfold cu at h;rw[h]at e;simp[bI,kN]at e
theorem bu.o6{w:aa}{K0:TypeId}{b n:Nat}{F:Lit->Option Value}(h:bu Tryz.prog K0 w b n F):oB w b:=by obtain⟨D,⟨es,dD,e0,_⟩,_⟩:=h;intro cs aD e;rw[e0]at e;cases e
