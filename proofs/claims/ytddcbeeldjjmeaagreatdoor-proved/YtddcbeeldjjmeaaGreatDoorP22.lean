/- SEALING A TREE: the. -/
import Derived.Test.YtddcbeeldjjmeaaGreatDoorP21
import Derived.Test.YtddcbeeldjjmeaaGreatDoorP9
set_option linter.unusedVariables false
set_option maxRecDepth 20000
set_option maxHeartbeats 4000000
namespace Go.Proofs.YtddcbeeldjjmeaaGreatDoor
open Go Go.Conc Go.Eq Go.bF Go.RowKit Go.Conc.Lib Go.ConcR.Gen Go.ConcN.Gen
open Go.ConcR(DC0 WgAt)
open Go.ConcN(WgLive)
section
variable{FinN:Perm->Perm->Goroutine->World->Prop}{n:Nat}{c:ar}{w:World}{b:Frame}{cs:List Frame}{A D:Nat->Prop}{t:aH}
def SL(A:Nat->Prop)(n:Nat)(t:aH)(b':Nat)(c':ar)(x:World):Prop:=bC bD (aD n) (fun y=>(34<=y/\¬A y)/\∀a:Addr,a.block=y->c'.own a\/c'.rd a) x t b'
def Dl(A:Nat->Prop)(n:Nat)(c:ar)(w:World)(t:aH)(b':Nat)(c':ar)(x:World):Prop:=cR link.tWg (fun _=>False) c w c' x/\SL A n t b' c' x
theorem Dm{b':Nat}{c':ar}{x y:World}(h:Dl A n c w t b' c' x)(r:aS link.tWg c' x y):Dl A n c w t b' c' y:=⟨h.1.go r,h.2.same fun a ha=>r.same a (ha.2 a rfl)⟩
abbrev mH(D:Nat->Prop)(c:ar):ar:={c with own:=fun a=>c.own a/\¬D a.block,rd:=fun a=>c.rd a\/D a.block}
def Dn(A D:Nat->Prop)(n:Nat)(t:aH)(eh:Nat)(c:ar)(w x:World):Prop:=aS link.tWg (mH D c) w x/\bq (mH D c) x/\aX bD (aD n) (mw A (mH D c)) x t eh
theorem qO{eh:Nat}{x y:World}(h:Dn A D n t eh c w x)(r:aS link.tWg (mH D c) x y):Dn A D n t eh c w y:=⟨h.1.trans _ r,h.2.1.rely r,h.2.2.same fun a ha=>r.same a (ha.2 a rfl)⟩
theorem SM(hn:n<=32)(hW:iO t){eh:Nat}(hm:c.main=true)(hC:Calm c)(S:bq c w)(ah:∀x,A x->x<w.heap.size)(hD:∀y,D y->pG c y)(hN:aX bD (aD n) (fun y=>(34<=y/\¬A y)/\D y) w t eh)(K:∀c' w' b',Over link.tWg c w c' w'->bC bD (aD n) (fun y=>(34<=y/\¬A y)/\∀a:Addr,a.block=y->c'.own a) w' t b'->ao link.tWg Tryz.prog FinN .work c' (G (b.finish (.pointer (ptr b'))) cs) w'):ao link.tWg Tryz.prog FinN .work c (live (Frame.enter Tryz.prog 91 #[.pointer (ptr eh), .int .i64 n] .normal) (b::cs)) w:=by
 have hsub:∀a,(mH D c).own a\/(mH D c).rd a->c.own a\/c.rd a:=fun a h=>h.elim (fun h=> .inl h.1) fun h=>h.elim .inr fun h=>hD _ h a rfl;have hF:Dn A D n t eh c w w:=⟨.refl _ _ _,⟨fun a h=>S.low a (hsub a h),fun z hz=>⟨(S.cur z hz).1,fun a e h=>(S.cur z hz).2 a e (hsub a h)⟩,fun z v hz=>⟨(S.up z v hz).1,fun a e h=>(S.up z v hz).2 a e (hsub a h)⟩⟩,hN.mono fun y hy=>⟨⟨hy.1,fun a e=>⟨.inr (e▸hy.2),fun h=>h.2 (e▸hy.2)⟩⟩,fun a e=> .inr (.inr (e▸hy.2))⟩⟩;rw[enter_at _ Tryz.func91 (by rfl)];walk_nrmf Tryz.f91;show ao link.tWg Tryz.prog FinN .work c (G _ _) w;simp only[ptr];refine ao.nf (own':=fun a=>c.own a/\¬D a.block) (rd':=fun a=>c.rd a\/D a.block) rfl rfl rfl hm hC.cur S (fun w₁=>stepG_seq) (fun a h=> .inl h.1) (fun a h=>h.elim .inr fun h=>hD _ h a rfl) ?_;show ao link.tWg Tryz.prog FinN .work (mH D c) _ _;refine cq 60 (.inl rfl) rfl hF.2.1 ?_;u_reg qO hF;u_op qO hF;u_c stepG_region_end qO hF;u_c stepG_seq qO hF;u_reg qO hF;(iterate 2 u_op qO hF);refine Goes.stop (fun w₁ h₁=>?_);replace hF:=qO hF h₁;clear h₁;refine ao.enter rfl hF.2.1 rfl (by rfl) (by k_ne) rfl Tryz.func141 (by rfl) rfl ?_;walk_nrm;have hcalm:Calm (mH D c):=⟨hC.deaf,hC.cur,hC.pend,hC.kids,hC.b7⟩;refine SK hn t hW 3 (Nat.le_refl 3) A (mH D c) w₁ eh _ _ hcalm hF.2.1 (fun x hx=>Nat.lt_of_lt_of_le (ah x hx) hF.1.size) hF.2.2 ?_;intro c' w' b' E hS;rw[Frame.finish_at];walk_nrm;have hE:cR link.tWg (fun _=>False) (mH D c) w c' w':=((cR.refl (X:=fun _=>False) (S:=⟨fun a h=>S.low a (hsub a h),fun z hz=>⟨(S.cur z hz).1,fun a e h=>(S.cur z hz).2 a e (hsub a h)⟩,fun z v hz=>⟨(S.up z v hz).1,fun a e h=>(S.up z v hz).2 a e (hsub a h)⟩⟩)).go hF.1).trans E (fun _ e=>e.elim);have hP:Dl A n (mH D c) w t b' c' w':=⟨hE,hS⟩;clear hS E hE hF;simp only[ptr];refine cq 60 (.inl rfl) rfl hP.1.aW ?_;u_op Dm hP;u_c stepG_region_end Dm hP;refine Goes.stop (fun w₂ h₁=>?_);replace hP:=Dm hP h₁;clear h₁;have hcf:=hP.1.cfg;have hm':c'.main=true:=by rw[hcf];exact hm
 have SN:c'.cur=none:=by rw[hcf];exact hC.cur
 refine ao.nf (own':=fun a=>c'.own a\/c'.rd a) (rd':=c'.rd) rfl rfl rfl hm' SN hP.1.aW (fun w₁=>stepG_ret') (fun a h=>h) (fun a h=> .inr h) ?_;have hcov:∀a,c.own a\/c.rd a->(mH D c).own a\/(mH D c).rd a:=fun a h=>by by_cases hd:D a.block;{exact .inr (.inr hd)};.exact h.imp (fun h=>⟨h,hd⟩) .inl
 have hO:Over link.tWg c w {c' with own:=fun a=>c'.own a\/c'.rd a,rd:=c'.rd} w₂:=by refine⟨by rw[hcf],fun a h=>(hcov a h).imp (hP.1.own a) (hP.1.rd a),fun a h=>?_,hP.1.size,fun a h=>hP.1.same a (hcov a h) (fun e=>e),hP.1.shape,hP.1.up,hP.1.os,hP.1.tape,hP.1.output,⟨fun a h=>hP.1.aW.low a (h.elim id .inr),fun z hz=>?_,fun z v hz=>?_⟩⟩;{rcases h with h|h;{exact(hP.1.own' a h).elim (fun h=>(hsub a (.inl h)).imp id .inl) fun h=> .inr (.inr h)};.rcases hP.1.rd' a h with h|h|h;{exact(hsub a (.inr h)).imp id .inl};{exact(hsub a (.inl h)).imp id .inl};.exact .inr (.inr h)};{exact⟨(hP.1.aW.cur z hz).1,fun a e h=>(hP.1.aW.cur z hz).2 a e (h.elim id .inr)⟩};.exact⟨(hP.1.aW.up z v hz).1,fun a e h=>(hP.1.aW.up z v hz).2 a e (h.elim id .inr)⟩
 exact ao.ctl rfl rfl rfl hO.aW (fun w₁=>stepG_leave rfl rfl Tryz.func91 (results_tmp (t:=4) rfl _ _ _) (events_results_tmp (t:=4) rfl _ _)) (K _ _ b' hO hP.2)
end
structure JD(u u':World):Prop where
 size:u.heap.size<=u'.heap.size
 old:∀y,y<u.heap.size->u'.heap[y]?=u.heap[y]?
 os:u'.os=u.os
def Dp:gP:=fun f args u Post=>f=91/\∃(n eh:Nat)(t:aH),n<=32/\iO t/\args=#[.pointer (ptr eh), .int .i64 n]/\aX bD (aD n) (fun _=>True) u t eh/\Post=fun x u'=>∃b',x= .pointer (ptr b')/\JD u u'/\bC bD (aD n) (fun _=>True) u' t b'
def zR(c:ar):Prop:=c.main=true/\Calm c
