/- SEALING A TREE: the. -/
import Derived.Test.YtddcbeeldjjmeaaGreatDoorP21
import Derived.Test.YtddcbeeldjjmeaaGreatDoorP9
set_option maxRecDepth 20000
set_option maxHeartbeats 4000000
set_option linter.unusedVariables false
namespace Go.Proofs.YtddcbeeldjjmeaaGreatDoor
open Go Go.Conc Go.Eq Go.bq Go.RowKit Go.Conc.Lib Go.ConcR.Gen Go.ConcN.Gen
open Go.ConcR(DC0 WgAt)
open Go.ConcN(WgLive)
section
variable{FinN:Perm->Perm->Goroutine->World->Prop}{n:Nat}{c:ao}{w:World}{b:Frame}{cs:List Frame}{A D:Nat->Prop}{t:aF}
def Q3(A:Nat->Prop)(n:Nat)(t:aF)(b':Nat)(c':ao)(x:World):Prop:=bA bF (aK n) (fun y=>(34<=y/\¬A y)/\∀a:Addr,a.block=y->c'.own a\/c'.rd a) x t b'
def CH(A:Nat->Prop)(n:Nat)(c:ao)(w:World)(t:aF)(b':Nat)(c':ao)(x:World):Prop:=b6 link.tWg (fun _=>False) c w c' x/\Q3 A n t b' c' x
theorem CI{b':Nat}{c':ao}{x y:World}(h:CH A n c w t b' c' x)(r:aQ link.tWg c' x y):CH A n c w t b' c' y:=⟨h.1.go r,h.2.same fun a ha=>r.same a (ha.2 a rfl)⟩
abbrev l9(D:Nat->Prop)(c:ao):ao:={c with own:=fun a=>c.own a/\¬D a.block,rd:=fun a=>c.rd a\/D a.block}
def CJ(A D:Nat->Prop)(n:Nat)(t:aF)(jg:Nat)(c:ao)(w x:World):Prop:=aQ link.tWg (l9 D c) w x/\bg (l9 D c) x/\bG bF (aK n) (lY A (l9 D c)) x t jg
theorem pT{jg:Nat}{x y:World}(h:CJ A D n t jg c w x)(r:aQ link.tWg (l9 D c) x y):CJ A D n t jg c w y:=⟨h.1.trans _ r,h.2.1.rely r,h.2.2.same fun a ha=>r.same a (ha.2 a rfl)⟩
theorem Q4(hn:n<=32)(hW:j5 t){jg:Nat}(hm:c.main=true)(hC:Calm c)(S:bg c w)(aj:∀x,A x->x<w.heap.size)(hD:∀y,D y->oT c y)(hN:bG bF (aK n) (fun y=>(34<=y/\¬A y)/\D y) w t jg)(K:∀c' w' b',Over link.tWg c w c' w'->bA bF (aK n) (fun y=>(34<=y/\¬A y)/\∀a:Addr,a.block=y->c'.own a) w' t b'->al link.tWg Tryz.prog FinN .work c' (G (b.finish (.pointer (ptr b'))) cs) w'):al link.tWg Tryz.prog FinN .work c (live (Frame.enter Tryz.prog 91 #[.pointer (ptr jg), .int .i64 n] .normal) (b::cs)) w:=by
 have hsub:∀a,(l9 D c).own a\/(l9 D c).rd a->c.own a\/c.rd a:=fun a h=>h.elim (fun h=> .inl h.1) fun h=>h.elim .inr fun h=>hD _ h a rfl;have hF:CJ A D n t jg c w w:=⟨.refl _ _ _,⟨fun a h=>S.low a (hsub a h),fun z hz=>⟨(S.cur z hz).1,fun a e h=>(S.cur z hz).2 a e (hsub a h)⟩,fun z v hz=>⟨(S.up z v hz).1,fun a e h=>(S.up z v hz).2 a e (hsub a h)⟩⟩,hN.mono fun y hy=>⟨⟨hy.1,fun a e=>⟨.inr (e▸hy.2),fun h=>h.2 (e▸hy.2)⟩⟩,fun a e=> .inr (.inr (e▸hy.2))⟩⟩;rw[enter_at _ Tryz.func91 (by rfl)];walk_nrmf Tryz.f91;show al link.tWg Tryz.prog FinN .work c (G _ _) w;simp only[ptr];refine al.mz (own':=fun a=>c.own a/\¬D a.block) (rd':=fun a=>c.rd a\/D a.block) rfl rfl rfl hm hC.cur S (fun w₁=>stepG_seq) (fun a h=> .inl h.1) (fun a h=>h.elim .inr fun h=>hD _ h a rfl) ?_;show al link.tWg Tryz.prog FinN .work (l9 D c) _ _;refine bY 60 (.inl rfl) rfl hF.2.1 ?_;u_reg pT hF;u_op pT hF;u_c stepG_region_end pT hF;u_c stepG_seq pT hF;u_reg pT hF;(iterate 2 u_op pT hF);refine Goes.stop (fun w₁ h₁=>?_);replace hF:=pT hF h₁;clear h₁;refine al.enter rfl hF.2.1 rfl (by rfl) (by k_ne) rfl Tryz.func141 (by rfl) rfl ?_;walk_nrm;have hcalm:Calm (l9 D c):=⟨hC.deaf,hC.cur,hC.pend,hC.kids,hC.bV⟩;refine Q2 hn t hW 3 (Nat.le_refl 3) A (l9 D c) w₁ jg _ _ hcalm hF.2.1 (fun x hx=>Nat.lt_of_lt_of_le (aj x hx) hF.1.size) hF.2.2 ?_;intro c' w' b' E hS;rw[Frame.finish_at];walk_nrm;have hE:b6 link.tWg (fun _=>False) (l9 D c) w c' w':=((b6.refl (X:=fun _=>False) (S:=⟨fun a h=>S.low a (hsub a h),fun z hz=>⟨(S.cur z hz).1,fun a e h=>(S.cur z hz).2 a e (hsub a h)⟩,fun z v hz=>⟨(S.up z v hz).1,fun a e h=>(S.up z v hz).2 a e (hsub a h)⟩⟩)).go hF.1).trans E (fun _ e=>e.elim);have hP:CH A n (l9 D c) w t b' c' w':=⟨hE,hS⟩;clear hS E hE hF;simp only[ptr];refine bY 60 (.inl rfl) rfl hP.1.aE ?_;u_op CI hP;u_c stepG_region_end CI hP;refine Goes.stop (fun w₂ h₁=>?_);replace hP:=CI hP h₁;clear h₁;have hcf:=hP.1.cfg;have hm':c'.main=true:=by rw[hcf];exact hm
 have Q5:c'.cur=none:=by rw[hcf];exact hC.cur
 refine al.mz (own':=fun a=>c'.own a\/c'.rd a) (rd':=c'.rd) rfl rfl rfl hm' Q5 hP.1.aE (fun w₁=>stepG_ret') (fun a h=>h) (fun a h=> .inr h) ?_;have hcov:∀a,c.own a\/c.rd a->(l9 D c).own a\/(l9 D c).rd a:=fun a h=>by by_cases hd:D a.block;{exact .inr (.inr hd)};.exact h.imp (fun h=>⟨h,hd⟩) .inl
 have hO:Over link.tWg c w {c' with own:=fun a=>c'.own a\/c'.rd a,rd:=c'.rd} w₂:=by refine⟨by rw[hcf],fun a h=>(hcov a h).imp (hP.1.own a) (hP.1.rd a),fun a h=>?_,hP.1.size,fun a h=>hP.1.same a (hcov a h) (fun e=>e),hP.1.shape,hP.1.up,hP.1.os,hP.1.tape,hP.1.output,⟨fun a h=>hP.1.aE.low a (h.elim id .inr),fun z hz=>?_,fun z v hz=>?_⟩⟩;{rcases h with h|h;{exact(hP.1.own' a h).elim (fun h=>(hsub a (.inl h)).imp id .inl) fun h=> .inr (.inr h)};.rcases hP.1.rd' a h with h|h|h;{exact(hsub a (.inr h)).imp id .inl};{exact(hsub a (.inl h)).imp id .inl};.exact .inr (.inr h)};{exact⟨(hP.1.aE.cur z hz).1,fun a e h=>(hP.1.aE.cur z hz).2 a e (h.elim id .inr)⟩};.exact⟨(hP.1.aE.up z v hz).1,fun a e h=>(hP.1.aE.up z v hz).2 a e (h.elim id .inr)⟩
 exact al.ctl rfl rfl rfl hO.aE (fun w₁=>stepG_leave rfl rfl Tryz.func91 (results_tmp (t:=4) rfl _ _ _) (events_results_tmp (t:=4) rfl _ _)) (K _ _ b' hO hP.2)
end
structure IJ(u u':World):Prop where
 size:u.heap.size<=u'.heap.size
 old:∀y,y<u.heap.size->u'.heap[y]?=u.heap[y]?
 os:u'.os=u.os
def yS:eE:=fun f args u Post=>f=91/\∃(n jg:Nat)(t:aF),n<=32/\j5 t/\args=#[.pointer (ptr jg), .int .i64 n]/\bG bF (aK n) (fun _=>True) u t jg/\Post=fun x u'=>∃b',x= .pointer (ptr b')/\IJ u u'/\bA bF (aK n) (fun _=>True) u' t b'
def vx(c:ao):Prop:=c.main=true/\Calm c
