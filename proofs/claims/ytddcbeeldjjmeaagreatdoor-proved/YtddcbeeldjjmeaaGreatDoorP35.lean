/- SEALED TREES: what is. -/
import Derived.Test.YtddcbeeldjjmeaaGreatDoorP34
import Derived.Test.YtddcbeeldjjmeaaGreatDoorP22
open Go renaming World->aa
open List renaming length_append->bH,mem_cons_self->dE,mem_map->cH
namespace Go.Proofs.YtddcbeeldjjmeaaGreatDoor
open Go Go.RowKit Go.bF Go.cP aF Go.Maps Go.Sort Go.Shelf Go.Eq
set_option linter.unusedVariables false
set_option linter.unusedSimpArgs false
theorem KM(p:Bits)(h:p.length<=37):bg.gV (str p).data.toList=true:=by rw[oN];unfold bg.gV;simp only[Bool.and_eq_true,decide_eq_true_eq,List.length_map,List.all_eq_true];refine⟨fun x hx=>?_,h⟩;obtain⟨b,_,rfl⟩:=cH.1 hx;cases b<;>decide
theorem UR:∀{L:List (Bits×ByteArray)}{t:T ByteArray},cQ L t->(∀x,x∈L->x.1.length<=37/\x.2.size<=20)->iO t.aM:=by intro L t h;induction h with|empty=>exact fun _=>trivial|leaf p v=>exact fun h=>⟨KM p (h (p,v) dE).1,(h (p,v) dE).2⟩|@branch l0 l1 t0 t1 p n0 cy r0 bo i0 i1=>intro h;have h0:∀x,x∈l0->(p++[false]++x.1).length<=37/\x.2.size<=20:=fun x hx=>h (pre (p++[false]) x) (List.mem_append_left _ (cH.2 ⟨x,hx,rfl⟩));have h1:∀x,x∈l1->(p++[true]++x.1).length<=37/\x.2.size<=20:=fun x hx=>h (pre (p++[true]) x) (List.mem_append_right _ (cH.2 ⟨x,hx,rfl⟩));obtain⟨z,hz⟩:=tH r0 n0;refine⟨KM p (by have:=(h0 z hz).1;simp only[bH]at this;omega),i0 fun x hx=>?_,i1 fun x hx=>?_⟩;{exact⟨by have:=(h0 x hx).1;simp only[bH]at this;omega,(h0 x hx).2⟩};.exact⟨by have:=(h1 x hx).1;simp only[bH]at this;omega,(h1 x hx).2⟩
theorem Row.wf{B:bf}{t:T ByteArray}(hB:Row B)(hr:cQ B.bits t):iO t.aM:=by refine UR hr fun x hx=>?_;obtain⟨y,hy,rfl⟩:=cH.1 hx;have h1:=hB.keys y hy;have h2:=(qX _ h1.1).2;exact⟨by show(kb y.1).length<=37;rw[oO];omega,h1.2⟩
theorem xp{dg:cN}{R:Nat->Prop}{w:aa}:∀{t:aH}{b:Nat},bC bT dg R w t b->aX bT dg R w t b| .branch _ _ _,_,⟨h1,bl,br,h2,h3,h4⟩=>⟨h1,bl,br,_,true,h2,xp h3,xp h4,fun _=>⟨rfl,h3,h4⟩⟩| .empty,_,⟨h1,h2⟩=>⟨h1,_,true,h2,fun _=>rfl⟩| .leaf _ _,_,⟨h1,h2⟩=>⟨h1,_,true,h2,fun _=>rfl⟩
theorem US{dg:cN}{R:Nat->Prop}{w:aa}:∀{t:aH}{b:Nat},bC bT dg R w t b->∃l r,aP bT w b t.kind t.path t.value l r (aH.b9 dg t) true| .branch _ _ _,_,⟨h1,bl,br,h2,h3,h4⟩=>⟨_,_,h2⟩| .empty,_,⟨h1,h2⟩=>⟨_,_,h2⟩| .leaf _ _,_,⟨h1,h2⟩=>⟨_,_,h2⟩
structure dh(K:Nat->Prop)(w w':aa):Prop where
 os:w'.os=w.os
 size:w.heap.size<=w'.heap.size
 block:∀k,k<w.heap.size->¬K k->w'.heap[k]?=w.heap[k]?
theorem dh.trans{K:Nat->Prop}{w w' w'':aa}(h:dh K w w')(k:dh K w' w''):dh K w w'':=⟨k.os.trans h.os,Nat.le_trans h.size k.size,fun i hi hn=>(k.block i (Nat.lt_of_lt_of_le hi h.size) hn).trans (h.block i hi hn)⟩
theorem dh.mono{K K':Nat->Prop}{w w':aa}(h:dh K w w')(hk:∀k,k<w.heap.size->K k->K' k):dh K' w w':=⟨h.os,h.size,fun i hi hn=>h.block i hi fun e=>hn (hk i hi e)⟩
theorem dh.below{K:Nat->Prop}{w w':aa}(h:Below w.heap.size w w'):dh K w w':=⟨h.os,h.size,fun k hk _=>h.block k hk⟩
theorem dh.UT{K:Nat->Prop}{w w':aa}(h:JD w w'):dh K w w':=⟨h.os,h.size,fun k hk _=>h.old k hk⟩
theorem dh.kept{K:Nat->Prop}{w w':aa}(h:Kept K w w'):dh K w w':=⟨h.os,h.size,h.block⟩
theorem dh.grown{w w':aa}{b:Option Nat}(h:w.grownBy w' b):dh (fun k=>some k=b) w w':=⟨h.os,h.size,fun k hk hn=>h.block k hk hn⟩
def uD(w:aa)(k:Nat):Prop:=∀cs az,w.heap[k]?≠some (.cells cs bT az)
theorem dh.node{K:Nat->Prop}{w w':aa}(h:dh K w w')(hK:∀k,K k->uD w k){b:Nat}{kd:Int}{p v:ByteArray}{l r:Option Addr}{d:Int}{s:Bool}(hN:aP bT w b kd p v l r d s):aP bT w' b kd p v l r d s:=by obtain⟨az,e⟩:=hN;exact⟨az,(h.block b (Array.getElem?_eq_some_iff.1 e).1 fun hk=>hK b hk _ _ e).trans e⟩
theorem dh.j6{dg:cN}{K:Nat->Prop}{w w':aa}(h:dh K w w')(hK:∀k,K k->uD w k):∀{t:aH}{b:Nat},bC bT dg gY w t b->bC bT dg gY w' t b| .branch _ _ _,_,⟨h1,bl,br,h2,h3,h4⟩=>⟨h1,bl,br,h.node hK h2,h.j6 hK h3,h.j6 hK h4⟩| .empty,_,⟨h1,h2⟩=>⟨h1,h.node hK h2⟩| .leaf _ _,_,⟨h1,h2⟩=>⟨h1,h.node hK h2⟩
theorem dh.fG{dg:cN}{K:Nat->Prop}{w w':aa}(h:dh K w w')(hK:∀k,K k->uD w k):∀{t:aH}{b:Nat},aX bT dg gY w t b->aX bT dg gY w' t b| .branch _ _ _,_,⟨h1,bl,br,d,s,h2,h3,h4,h5⟩=>⟨h1,bl,br,d,s,h.node hK h2,h.fG hK h3,h.fG hK h4,fun x=>⟨(h5 x).1,h.j6 hK (h5 x).2.1,h.j6 hK (h5 x).2.2⟩⟩| .empty,_,⟨h1,d,s,h2,h3⟩=>⟨h1,d,s,h.node hK h2,h3⟩| .leaf _ _,_,⟨h1,d,s,h2,h3⟩=>⟨h1,d,s,h.node hK h2,h3⟩
theorem b3.uE{w:aa}{s bb cb vb:Nat}{wd nw:Int}(h:b3 w s wd bb cb vb nw):uD w s:=by intro cs az e;unfold b3 at h;rw[h]at e;simp[bT,ns]at e
theorem bp.uE{w:aa}{K0:TypeId}{b n:Nat}{F:Lit->Option Value}(h:bp Tryz.prog K0 w b n F):uD w b:=by obtain⟨D,⟨es,et,e0,_⟩,_⟩:=h;intro cs az e;rw[e0]at e;cases e
