/- For every integer, every row of steps, every key and every other root the law Proved answers true, and its arguments read afterwards as before; on every order of its goroutines; no condition but what the row lists of package-level variables, which the card ties to the program's text. -/
import Derived.Test.YtddcbeeldjjmeaaGreatDoorTie
import Derived.Test.YtddcbeeldjjmeaaGreatDoorCards
import Derived.Test.YtddcbeeldjjmeaaGreatDoorP52
import Derived.Test.YtddcbeeldjjmeaaGreatDoorP53
import Derived.Conc.LeavingOf
import Derived.Lay
set_option maxRecDepth 100000
open Go renaming trodAll_cons_mk->GJ
open Go.Proofs.Tryz renaming checked->Ph,f8->mr,prog->ag,underlying3->mj,underlying60->GI
open Option.some renaming inj->ib
namespace Go.Proofs.YtddcbeeldjjmeaaGreatDoor
open Go
theorem aaO(Lk:Looks){p:Pinned}{s:OpenSpec}{c:OpenClaim}(kinds:List LaidKind)(tests:Bool)(har:Bool×String)(lk g:Bool)(hc:c.holds p s)(hw:c.wfByText s=true)(htie:c.laidByTextAt Lk p kinds tests)(hst:c.start= .entering)(hnb:c.noBlocks=false/\c.again=false)(hm:p.checked.prog.mainIs=some (har.1,har.2.toList))(hn:(!har.1&&har.2.isEmpty&&!lk)=false)(hl:∀f fn,p.checked.prog.funcNamed c.func=some f->p.checked.prog.funcs[f]?=some fn->lk=p.checked.prog.looks []/\∀(j:Nat)t,fn.params[j]?=some t->p.checked.prog.wantsStandIn t=false)(hg:g=c.goesBy p.checked.prog):Claim7.holds p (.plain s) {stood:={row:=c,standIns:=[],harness:=har,looks:=lk},kinds:=[],alts:=[],goes:=g,laidByText:=true,laidKinds:=kinds,laidTests:=tests,laidLooks:=Lk}:=by(have h6:∀r:OpenClaim,Claim7.isSixth {stood:={row:=r,standIns:=[],harness:=har,looks:=lk},kinds:=[]}=false:=fun r=>by simpa[Claim7.isSixth]using hn);exact⟨Claim7.tied_new_at Lk kinds tests (Claim7.new_of_sixth hc har lk hst hnb hm (h6 c) hl) hw,(fun D hD=>by cases hD),htie,(fun h=>by cases h),hg⟩
end Go.Proofs.YtddcbeeldjjmeaaGreatDoor
namespace Go.Proofs.YtddcbeeldjjmeaaGreatDoor.proven
set_option linter.unusedVariables false
theorem aaP:laidOutB Tryz.pinned.checked.prog=true:=by kernel_rfl
theorem aaQ:mapsRowed Tryz.pinned.checked.prog=true:=by kernel_rfl
theorem aaR:(Rows.provedRow.inPlace==Tryz.pinned.checked.prog.inPlace 8)=true:=by kernel_rfl
theorem aaS:(Rows.provedRow.unfollowed==Tryz.pinned.checked.prog.unfollowed 8)=true:=by kernel_rfl
theorem aaT:(Rows.provedRow.recurses==Tryz.pinned.checked.prog.recurses 8)=true:=by kernel_rfl
theorem aaU:(Rows.provedRow.named==Tryz.pinned.checked.prog.varsNamed 8)=true:=by kernel_rfl
theorem aaV:namedTie Tryz.pinned.checked.prog Rows.provedRow.named Rows.provedSpec.vars=true:=by kernel_rfl
theorem aaW:(Tryz.pinned.checked.prog.stopsHeard)=true:=by kernel_rfl
theorem aaX:(Tryz.pinned.checked.prog.mayEnter)=true:=by kernel_rfl
theorem aaY:(Rows.provedRow.lifted==Tryz.pinned.checked.prog.liftsFinal)=true:=by kernel_rfl
theorem aaZ:(Rows.provedRow.plainKeys==Tryz.pinned.checked.prog.plainKeys)=true:=by kernel_rfl
theorem aa0:(Tryz.pinned.checked.prog.make==some Rows.provedRow.make)=true:=by kernel_rfl
theorem facts:joinedFacts Tryz.pinned.checked.prog 8 mr Rows.provedSpec Rows.provedRow=true:=by unfold joinedFacts;rw[aaP,aaQ,aaV,aaR,aaS,aaT,aaU,aaZ,aaW,aaX,aaY,aa0];kernel_rfl
end Go.Proofs.YtddcbeeldjjmeaaGreatDoor.proven
namespace Go.Proofs.YtddcbeeldjjmeaaGreatDoor.proven
open Go Go.Conc Go.ChangeShapes Go.WideShapes Go.ChangeAt Go.RowKit Go.Proofs.YtddcbeeldjjmeaaGreatDoor
set_option linter.unusedVariables false
set_option linter.unusedSimpArgs false
theorem own:ownKnob Tryz.prog.godebug=none:=by kernel_rfl
theorem laidOut:laidOutB ag=true:=by kernel_rfl
theorem aa1:Tryz.prog.cellsOf 65=3:=by kernel_rfl
theorem aa2:Tryz.prog.bytesOf 65=24:=by kernel_rfl
theorem aa3:Tryz.prog.readableRec 60=true:=by kernel_rfl
theorem aa4:((List.range 34).all fun g=>match((begin ag (fun _ _=>0) default).world.heap[g]?).bind Obj.row? with|some (_,t)=>Tryz.prog.globals.toList.any fun x=>x.type==t|none=>false)=true:=by kernel_rfl
theorem aa5{W:World}(h:W.ShapedOpen ag):∀g,g<34->∃c t f,W.heap[g]?=some (.cells c t f)/\∃x,x∈Tryz.prog.globals.toList/\x.type=t:=by intro g hg;have h1:=List.all_eq_true.1 aa4 g (List.mem_range.2 hg);split at h1;{rename_i z t e;obtain⟨cs,hc,_⟩:=h.1 g z t (by rw[KO];exact hg) e;obtain⟨x,hx,ht⟩:=List.any_eq_true.1 h1;exact⟨cs,t,_,hc,x,hx,by simpa using ht⟩};.cases h1
theorem aa6(g:Nat)(hg:g∈uZ.p9):∃text,(uZ.nameOf g,uZ.rC "*errors.errorString" text)∈Rows.provedRow.laid:=by simp only[uZ.p9,List.mem_cons,List.mem_nil_iff,or_false]at hg;rcases hg with rfl|rfl|rfl;all_goals refine⟨?_, ?_⟩;rotate_left;repeat(first|exact List.Mem.head _|refine List.Mem.tail _ ?_)
theorem lifted(os:Os)(started:os.Started)(H:Type)(enc:TypeId×Value->H):ReturnsInLeavingWide {} Ph os 8 .any (fun w args=>(Rows.provedSpec.pre enc ag mr Rows.provedRow.domain false w args/\laidMetH ag Rows.provedRow.laid w)/\sizedMet enc ag mr (OpenSpec.ofChange Rows.provedSpec) false w args) (Rows.provedSpec.post enc ag mr false true false false):=by
 refine returnsInLeavingWide_of_good (C:=Ph) own started (ChangeSpec.witness_shaped (enc:=enc) (C:=Ph) (os:=os) (X:=fun w _=>laidMetH ag Rows.provedRow.laid w) false (World.laidAll ag os Rows.provedRow.laid) #[.int .i64 0, .slice none 0 0, .int .i64 0, .int .i64 0] 8 (World.laidAll_os _ _ _) (World.shaped_of_ZipB (by kernel_rfl) (by kernel_rfl)) (by kernel_rfl) (by kernel_rfl) (by kernel_rfl) (by rw[MakeChecks.laidMetH_plain _ _ _ (by kernel_rfl)];exact laidMet_laidAll _ (by kernel_rfl) (by kernel_rfl))) ?_;intro w tape i _ Na _ aa7 hpre hholds;obtain⟨_,_,_,fn',hfn',_,_,_,_,hval0⟩:=aa7;have e:fn'=mr:=ib (hfn'.symm.trans Tryz.func8);subst e;obtain⟨⟨⟨ds,gs,before,hw,hc⟩,hx⟩,hz⟩:=hpre;have hsz0:=hz.weights hw;have hL:=hx.of_heap (w':=w.forCall tape i) (by rfl);have hW:=DataW.Whole.of_heap (w':=w.forCall tape i) (by rfl) hw;have uY:=aa5 Na;rw[MakeChecks.laidMetH_plain _ _ _ (by kernel_rfl)]at hL;obtain⟨A,hA3⟩:=uZ.aaN hL aa6;clear hw hx hz hc Na hholds hL;generalize w.forCall tape i=W at hW hsz0 uY hA3 hval0⊢;generalize i.args=args at hW hsz0 hval0⊢;generalize w.heap.size=base at hval0;have hsz:(DataW.weightsEach ag (Tryz.f8.params.toList++Rows.provedSpec.plain.varTypes ag) (ds++gs)).all (·<=reachBytes)=true:=hsz0;clear hsz0;have hval:∀(j:Nat)t v,Tryz.f8.params[j]?=some t->args[j]?=some v->Value.okWide ag W .any base t v:=hval0;have hW':=hW;obtain⟨p,q,hA0,hV,rfl,hfz,hnd⟩:=hW;have ah:DataW.TrodAll enc ag W 0 (fun _=>true) true Tryz.f8.params.toList args.toList ds p:=hA0;rw[Tryz.params8]at ah hval hsz;obtain⟨v0,adR,d0,ds0,p0,q0,hargs,rfl,rfl,h0,r0⟩:=trodAll_cons ah;obtain⟨v1,vs1,d1,ds1,p1,q1,rfl,rfl,rfl,h1,bo⟩:=trodAll_cons r0;obtain⟨v2,vs2,d2,ds2,p2,q2,rfl,rfl,rfl,h2,r2⟩:=trodAll_cons bo;obtain⟨v3,vs3,d3,ds3,p3,q3,rfl,rfl,rfl,h3,b6⟩:=trodAll_cons r2;obtain⟨rfl,rfl,rfl⟩:=trodAll_nil b6;obtain rfl:args=#[v0,v1,v2,v3]:=by cases args;simp_all
 obtain⟨rfl,rfl⟩:=trodVars_none hV;have t1:=h1;have hlt:∀x∈p0++(p1++(p2++(p3++[]))),x.block<W.heap.size:=fun x hx=>by simpa using hW'.lt x (by simpa using hx)
 obtain⟨a,rfl,rfl,rfl,wa⟩:=open_int mj (hval 0 3 v0 rfl rfl) h0;obtain⟨aG,rfl,rfl,rfl,wk⟩:=open_int mj (hval 2 3 v2 rfl rfl) h2;obtain⟨k3,rfl,rfl,rfl,fZ⟩:=open_int mj (hval 3 3 v3 rfl rfl) h3;have hok:=hval 1 60 v1 rfl rfl;obtain⟨a0,len,cap,rfl⟩:=okWide_slice GI hok;obtain⟨fuel,hf⟩:=h1;clear hA0 hval0;have hblk:∀ad,a0=some ad->∃c t f,W.heap[ad.block]?=some (.cells c t f):=by rintro ad rfl;simp only[Value.okWide,GI,Cell.okWide,Cell.ok,World.has]at hok;obtain⟨-,-,-,-,row,cells,hs,-⟩:=hok;simp only[World.shape?]at hs;split at hs;{exact⟨_,_,_,by assumption⟩};.cases hs
 have key:∃ps:List (Int×Int×Int),len=ps.length/\ps.length<=5864062014690/\(∀x,x∈ps->ca x.1/\ca x.2.1/\ca x.2.2)/\∀(i:Nat)(hi:i<ps.length),∃ad:Addr,a0=some ad/\W.cell? (ad.add (i*3))=some (.int .i64 ps[i].1)/\W.cell? ((ad.add (i*3)).add 1)=some (.int .i64 ps[i].2.1)/\W.cell? ((ad.add (i*3)).add 2)=some (.int .i64 ps[i].2.2):=by rcases aaA GI Tryz.underlying65 aa1 ⟨mj,rfl,by kernel_rfl⟩ ⟨mj,rfl,by kernel_rfl⟩ ⟨mj,rfl,by kernel_rfl⟩ hf with⟨hcs,hx⟩|⟨ad,cap',ps,el,rest,hcs,hd,hel,hr,hcell⟩;{simp[Value.cells]at hcs;obtain⟨rfl,rfl,rfl⟩:=hcs;exact⟨[],rfl,by simp,by simp,fun i hi=>absurd hi (Nat.not_lt_zero i)⟩};.simp[Value.cells]at hcs;obtain⟨rfl,rfl,rfl⟩:=hcs;simp only at hd;subst hd;have hreach:=sized_slice hsz (j:=1) (t:=60) (e:=65) rfl rfl GI;rw[aa2,hel]at hreach;simp only[reachBytes]at hreach;exact⟨ps,rfl,by omega,hr,fun i hi=>⟨ad,rfl,hcell i hi⟩⟩
 obtain⟨ps,rfl,hps,hr,hcell⟩:=key;obtain⟨N,last,kZ,w',t',g1,g2,g3,g4⟩:=aaC (W:=W) (a0:=a0) (cap:=cap) (uX wa) (uX wk) (uX fZ) hps hr hblk hcell uY A hA3;refine⟨N,last,kZ,w',t',g1,g2,g3,g4.mono fun v ⟨he,hb0⟩=>ChangeSpec.post_blind ?_⟩;subst he;suffices hpost:Rows.provedSpec.post enc ag mr false true false false W #[.int .i64 a, .slice a0 ps.length cap, .int .i64 aG, .int .i64 k3] (.bool true) {w' with tape:=W.tape}by obtain⟨ds',gs',before',pr,ov,pv,k1,aG,k3,k4,k5,k6⟩:=hpost;exact⟨ds',gs',before',pr,ov,pv,k1,aG.of_heap (by rfl),k3.of_heap (by rfl),k4.of_heap (by rfl),k5,fun h=>by cases h⟩
 have hb:Below W.heap.size W {w' with tape:=W.tape}:=⟨hb0.os,rfl,hb0.output,hb0.size,hb0.block⟩;have s1:=Below.trod laidOut aa3 (of_decide_eq_true (by kernel_rfl)) t1 hb (fun x hx=>hlt x (by simp[hx]));simp only[List.append_nil,List.nil_append]at hW';refine⟨_,_,_,[],[]++(p1++[]),[],hW', ?_, ?_, ?_,hb.frame _,fun h=>by cases h⟩;{exact trodAll_mk1 (shut_bool Tryz.underlying4 true)};{exact GJ (shut_int mj wa) (GJ s1 (GJ (shut_int mj wk) (GJ (shut_int mj fZ) trodAll_mk0)))};.rfl
theorem named:Tryz.pinned.checked.prog.funcNamed Rows.provedRow.func=some 8:=by kernel_rfl
theorem inst:Tryz.f8.isInstance Tryz.pinned.checked.prog Rows.provedRow.origin Rows.provedRow.targs:=of_decide_eq_true (by kernel_rfl)
theorem wrapped:Tryz.f8.isWrapper Tryz.pinned.checked.prog Rows.provedRow.wrapper Rows.provedRow.mainSum:=by unfold Func.isWrapper;first|(rw[if_pos (by decide+kernel)];kernel_rfl)|(rw[if_neg (by decide+kernel)];exact⟨rfl,rfl⟩)
theorem over:Rows.ProvedSaid:=OpenClaim.holds_of_wide_leaving 8 mr rfl rfl rfl rfl rfl rfl rfl ⟨rfl,rfl,rfl,rfl,rfl⟩ rfl rfl rfl rfl rfl named Tryz.func8 facts inst wrapped (fun os started H enc _=>lifted os started H enc)
theorem proved:Rows.ProvedCardSaid:=aaO .later Rows.provedCard.laidKinds true Rows.provedCard.stood.harness true true over (by kernel_rfl) proved_row_tie rfl ⟨rfl,rfl⟩ (by kernel_rfl) rfl (fun f fn hf hfn=>by obtain rfl:f=8:=ib ((show Tryz.prog.funcNamed "twig/twigkeep.Proved"=some 8 by kernel_rfl).symm.trans hf)|>.symm;obtain rfl:fn=mr:=(ib (Tryz.func8.symm.trans hfn)).symm;exact⟨by kernel_rfl,fun j t ht=>by rw[Tryz.params8]at ht;(have hm:t∈[3,60,3,3]:=by simpa using Array.mem_of_getElem? ht);(have hall:([3,60,3,3].all fun u=>!Tryz.prog.wantsStandIn u)=true:=by kernel_rfl);exact(show Tryz.prog.wantsStandIn t=false by simpa using List.all_eq_true.1 hall t hm)⟩) (by kernel_rfl)
