/- For every integer and. -/
import Derived.Test.YtddcbeeldjjmeaaGreatDoorP53
import Derived.Test.YtddcbeeldjjmeaaGreatDoorTie
import Derived.Test.YtddcbeeldjjmeaaGreatDoorCards
import Derived.Conc.LeavingOf
import Derived.Lay
set_option maxRecDepth 100000
open Go renaming reachBytes->FZ,trodAll_cons_mk->F5
open Go.Proofs.Tryz renaming checked->NV,f10->iG,prog->ag,underlying3->sg,underlying42->sv
open Option.some renaming inj->kX
namespace Go.Proofs.YtddcbeeldjjmeaaGreatDoor.turned
open Go Go.Conc Go.ChangeShapes Go.WideShapes Go.ChangeAt Go.RowKit Go.Proofs.YtddcbeeldjjmeaaGreatDoor
set_option linter.unusedVariables false
set_option linter.unusedSimpArgs false
theorem Yt:Tryz.prog.cellsOf 3=1:=by kernel_rfl
theorem EJ{H:Type}{enc:TypeId×Value->H}{W:World}{base dU:Nat}{spare:Nat->Bool}{held:Bool}{v:Value}{d:DataW H}{pp:List MemPlace}(hok:Value.okWide ag W .any base 42 v)(h:∃fuel,DataW.trod enc ag W dU spare held fuel 42 v.cells.toList=some (d,pp)):∃a0 cap l,v= .slice a0 l.length cap/\Handed W a0 l/\(∀c∈l,eA c)/\((d= .nil/\l=[])\/∃el rest,d= .slice el rest/\el.length=l.length):=by obtain⟨a0,len,cap,rfl⟩:=okWide_slice sv hok;obtain⟨fuel,hf⟩:=h;(have hblk:∀ad,a0=some ad->∃c t f,W.heap[ad.block]?=some (.cells c t f):=by rintro ad rfl;simp only[Value.okWide,sv,Cell.okWide,Cell.ok,World.has]at hok;obtain⟨-,-,-,-,row,cells,hs,-⟩:=hok;simp only[World.shape?]at hs;split at hs;{exact⟨_,_,_,by assumption⟩};.cases hs);rcases open_ints sv sg Yt hf with⟨hcs,hx⟩|⟨ad,len',cap',zs,hcs,_,hl,hm,hz,hx,hcell,hwz⟩;{simp[Value.cells]at hcs;obtain⟨rfl,rfl,rfl⟩:=hcs;cases hx;exact⟨none,0,[],rfl,⟨hblk,fun i hi=>absurd hi (Nat.not_lt_zero i)⟩,by simp, .inl ⟨rfl,rfl⟩⟩};.simp[Value.cells]at hcs;obtain⟨rfl,rfl,rfl⟩:=hcs;(have hle:len<=zs.length:=by split at hz<;>omega);(have hlen:(zs.take len).length=len:=by rw[List.length_take];omega);cases hx;refine⟨some ad,cap,zs.take len,by rw[hlen],⟨hblk,fun i hi=>⟨ad,rfl, ?_⟩⟩,fun x hx=>LO (hwz x (List.mem_of_mem_take hx)), .inr ⟨_,_,rfl, ?_⟩⟩;{rw[hlen]at hi;rw[hcell i (by omega),List.getElem_take];simp[List.getD,show i<zs.length by omega]};.simp[lits]
end Go.Proofs.YtddcbeeldjjmeaaGreatDoor.turned
namespace Go.Proofs.YtddcbeeldjjmeaaGreatDoor
open Go
theorem Yu(Lk:Looks){p:Pinned}{s:OpenSpec}{c:OpenClaim}(kinds:List LaidKind)(tests:Bool)(har:Bool×String)(lk g:Bool)(hc:c.holds p s)(hw:c.wfByText s=true)(htie:c.laidByTextAt Lk p kinds tests)(hst:c.start= .entering)(hnb:c.noBlocks=false/\c.again=false)(hm:p.checked.prog.mainIs=some (har.1,har.2.toList))(hn:(!har.1&&har.2.isEmpty&&!lk)=false)(hl:∀f fn,p.checked.prog.funcNamed c.func=some f->p.checked.prog.funcs[f]?=some fn->lk=p.checked.prog.looks []/\∀(j:Nat)t,fn.params[j]?=some t->p.checked.prog.wantsStandIn t=false)(hg:g=c.goesBy p.checked.prog):Claim7.holds p (.plain s) {stood:={row:=c,standIns:=[],harness:=har,looks:=lk},kinds:=[],alts:=[],goes:=g,laidByText:=true,laidKinds:=kinds,laidTests:=tests,laidLooks:=Lk}:=by(have h6:∀r:OpenClaim,Claim7.isSixth {stood:={row:=r,standIns:=[],harness:=har,looks:=lk},kinds:=[]}=false:=fun r=>by simpa[Claim7.isSixth]using hn);exact⟨Claim7.tied_new_at Lk kinds tests (Claim7.new_of_sixth hc har lk hst hnb hm (h6 c) hl) hw,(fun D hD=>by cases hD),htie,(fun h=>by cases h),hg⟩
end Go.Proofs.YtddcbeeldjjmeaaGreatDoor
namespace Go.Proofs.YtddcbeeldjjmeaaGreatDoor.turned
set_option linter.unusedVariables false
theorem Yv:laidOutB Tryz.pinned.checked.prog=true:=by kernel_rfl
theorem Yw:mapsRowed Tryz.pinned.checked.prog=true:=by kernel_rfl
theorem Yx:(Rows.turnedRow.inPlace==Tryz.pinned.checked.prog.inPlace 10)=true:=by kernel_rfl
theorem Yy:(Rows.turnedRow.unfollowed==Tryz.pinned.checked.prog.unfollowed 10)=true:=by kernel_rfl
theorem Yz:(Rows.turnedRow.recurses==Tryz.pinned.checked.prog.recurses 10)=true:=by kernel_rfl
theorem YA:(Rows.turnedRow.named==Tryz.pinned.checked.prog.varsNamed 10)=true:=by kernel_rfl
theorem YB:namedTie Tryz.pinned.checked.prog Rows.turnedRow.named Rows.turnedSpec.vars=true:=by kernel_rfl
theorem YC:(Tryz.pinned.checked.prog.stopsHeard)=true:=by kernel_rfl
theorem YD:(Tryz.pinned.checked.prog.mayEnter)=true:=by kernel_rfl
theorem YE:(Rows.turnedRow.lifted==Tryz.pinned.checked.prog.liftsFinal)=true:=by kernel_rfl
theorem YF:(Rows.turnedRow.plainKeys==Tryz.pinned.checked.prog.plainKeys)=true:=by kernel_rfl
theorem YG:(Tryz.pinned.checked.prog.make==some Rows.turnedRow.make)=true:=by kernel_rfl
theorem facts:joinedFacts Tryz.pinned.checked.prog 10 iG Rows.turnedSpec Rows.turnedRow=true:=by unfold joinedFacts;rw[Yv,Yw,YB,Yx,Yy,Yz,YA,YF,YC,YD,YE,YG];kernel_rfl
end Go.Proofs.YtddcbeeldjjmeaaGreatDoor.turned
namespace Go.Proofs.YtddcbeeldjjmeaaGreatDoor.turned
open Go Go.Conc Go.ChangeShapes Go.WideShapes Go.ChangeAt Go.RowKit Go.Proofs.YtddcbeeldjjmeaaGreatDoor
set_option linter.unusedVariables false
set_option linter.unusedSimpArgs false
theorem own:ownKnob Tryz.prog.godebug=none:=by kernel_rfl
theorem laidOut:laidOutB ag=true:=by kernel_rfl
theorem EK:Tryz.prog.bytesOf 3=8:=by kernel_rfl
theorem EL:Tryz.prog.readableRec 42=true:=by kernel_rfl
theorem YH:((List.range 34).all fun g=>match((begin ag (fun _ _=>0) default).world.heap[g]?).bind Obj.row? with|some (_,t)=>Tryz.prog.globals.toList.any fun x=>x.type==t|none=>false)=true:=by kernel_rfl
theorem YI{W:World}(h:W.ShapedOpen ag):∀g,g<34->∃c t f,W.heap[g]?=some (.cells c t f)/\∃x,x∈Tryz.prog.globals.toList/\x.type=t:=by intro g hg;have h1:=List.all_eq_true.1 YH g (List.mem_range.2 hg);split at h1;{rename_i z t e;obtain⟨cs,hc,_⟩:=h.1 g z t (by rw[JM];exact hg) e;obtain⟨x,hx,ht⟩:=List.any_eq_true.1 h1;exact⟨cs,t,_,hc,x,hx,by simpa using ht⟩};.cases h1
theorem lifted(os:Os)(started:os.Started)(H:Type)(enc:TypeId×Value->H):ReturnsInLeavingWide {} NV os 10 .any (fun w args=>(Rows.turnedSpec.pre enc ag iG Rows.turnedRow.domain false w args/\laidMetH ag Rows.turnedRow.laid w)/\sizedMet enc ag iG (OpenSpec.ofChange Rows.turnedSpec) false w args) (Rows.turnedSpec.post enc ag iG false true false false):=by
 refine returnsInLeavingWide_of_good (C:=NV) own started (ChangeSpec.witness_shaped (enc:=enc) (C:=NV) (os:=os) (X:=fun w _=>laidMetH ag Rows.turnedRow.laid w) false (World.laidAll ag os Rows.turnedRow.laid) #[.int .i64 0, .slice none 0 0, .slice none 0 0, .slice none 0 0] 8 (World.laidAll_os _ _ _) (World.shaped_of_ZipB (by kernel_rfl) (by kernel_rfl)) (by kernel_rfl) (by kernel_rfl) (by kernel_rfl) (by rw[MakeChecks.laidMetH_plain _ _ _ (by kernel_rfl)];exact laidMet_laidAll _ (by kernel_rfl) (by kernel_rfl))) ?_;intro w tape i _ LS _ YJ hpre hholds;obtain⟨_,_,_,fn',hfn',_,_,_,_,hval0⟩:=YJ;have e:fn'=iG:=kX (hfn'.symm.trans Tryz.func10);subst e;obtain⟨⟨⟨ds,gs,before,hw,hc⟩,hx⟩,hz⟩:=hpre;have hsz0:=hz.weights hw;have hL:=hx.of_heap (w':=w.forCall tape i) (by rfl);have hW:=DataW.Whole.of_heap (w':=w.forCall tape i) (by rfl) hw;have tW:=YI LS;clear hw hx hz hc LS hholds hL;generalize w.forCall tape i=W at hW hsz0 tW hval0⊢;generalize i.args=args at hW hsz0 hval0⊢;generalize w.heap.size=base at hval0;have hsz:(DataW.weightsEach ag (Tryz.f10.params.toList++Rows.turnedSpec.plain.varTypes ag) (ds++gs)).all (·<=FZ)=true:=hsz0;clear hsz0;have hval:∀(j:Nat)t v,Tryz.f10.params[j]?=some t->args[j]?=some v->Value.okWide ag W .any base t v:=hval0;have hW':=hW;obtain⟨p,q,hA0,hV,rfl,hfz,hnd⟩:=hW;have aj:DataW.TrodAll enc ag W 0 (fun _=>true) true Tryz.f10.params.toList args.toList ds p:=hA0;rw[Tryz.params10]at aj hval hsz;obtain⟨v0,abl,d0,ds0,p0,q0,hargs,rfl,rfl,h0,r0⟩:=trodAll_cons aj;obtain⟨v1,vs1,d1,ds1,p1,q1,rfl,rfl,rfl,h1,cq⟩:=trodAll_cons r0;obtain⟨v2,vs2,d2,ds2,p2,q2,rfl,rfl,rfl,h2,r2⟩:=trodAll_cons cq;obtain⟨v3,vs3,d3,ds3,p3,q3,rfl,rfl,rfl,h3,cL⟩:=trodAll_cons r2;obtain⟨rfl,rfl,rfl⟩:=trodAll_nil cL;obtain rfl:args=#[v0,v1,v2,v3]:=by cases args;simp_all
 obtain⟨rfl,rfl⟩:=trodVars_none hV;have t1:=h1;have t2:=h2;have t3:=h3;have hlt:∀x∈p0++(p1++(p2++(p3++[]))),x.block<W.heap.size:=fun x hx=>by simpa using hW'.lt x (by simpa using hx)
 obtain⟨a,rfl,rfl,rfl,wa⟩:=open_int sg (hval 0 3 v0 rfl rfl) h0;obtain⟨a1,cp1,kl,rfl,hh1,hk,hd1⟩:=EJ (hval 1 42 v1 rfl rfl) h1;obtain⟨a2,cp2,vl,rfl,hh2,hv,hd2⟩:=EJ (hval 2 42 v2 rfl rfl) h2;obtain⟨a3,cp3,ms,rfl,hh3,hm,hd3⟩:=EJ (hval 3 42 v3 rfl rfl) h3;have hkl:kl.length<=20000000000000:=by rcases hd1 with⟨rfl,rfl⟩|⟨el,rest,rfl,e⟩;{simp};.have hreach:=sized_slice hsz (j:=1) (t:=42) (e:=3) rfl rfl sv;rw[EK,e]at hreach;simp only[FZ]at hreach;omega
 have hvl:vl.length<=20000000000000:=by rcases hd2 with⟨rfl,rfl⟩|⟨el,rest,rfl,e⟩;{simp};.have hreach:=sized_slice hsz (j:=2) (t:=42) (e:=3) rfl rfl sv;rw[EK,e]at hreach;simp only[FZ]at hreach;omega
 have hml:ms.length<=20000000000000:=by rcases hd3 with⟨rfl,rfl⟩|⟨el,rest,rfl,e⟩;{simp};.have hreach:=sized_slice hsz (j:=3) (t:=42) (e:=3) rfl rfl sv;rw[EK,e]at hreach;simp only[FZ]at hreach;omega
 clear hA0 hval0 hd1 hd2 hd3;obtain⟨N,last,kG,w',t',g1,g2,g3,g4⟩:=Yq (W:=W) (cp1:=cp1) (cp2:=cp2) (cp3:=cp3) (LO wa) hk hv hm hkl hvl hml hh1 hh2 hh3 tW;refine⟨N,last,kG,w',t',g1,g2,g3,g4.mono fun v ⟨he,hb0⟩=>ChangeSpec.post_blind ?_⟩;subst he;suffices hpost:Rows.turnedSpec.post enc ag iG false true false false W #[.int .i64 a, .slice a1 kl.length cp1, .slice a2 vl.length cp2, .slice a3 ms.length cp3] (.bool true) {w' with tape:=W.tape}by obtain⟨ds',gs',before',pr,pa,pv,k1,k2,k3,k4,k5,k6⟩:=hpost;exact⟨ds',gs',before',pr,pa,pv,k1,k2.of_heap (by rfl),k3.of_heap (by rfl),k4.of_heap (by rfl),k5,fun h=>by cases h⟩
 have hb:Below W.heap.size W {w' with tape:=W.tape}:=⟨hb0.os,rfl,hb0.output,hb0.size,hb0.block⟩;have s1:=Below.trod laidOut EL (of_decide_eq_true (by kernel_rfl)) t1 hb (fun x hx=>hlt x (by simp[hx]));have s2:=Below.trod laidOut EL (of_decide_eq_true (by kernel_rfl)) t2 hb (fun x hx=>hlt x (by simp[hx]));have tg:=Below.trod laidOut EL (of_decide_eq_true (by kernel_rfl)) t3 hb (fun x hx=>hlt x (by simp[hx]));simp only[List.append_nil,List.nil_append]at hW';refine⟨_,_,_,[],[]++(p1++(p2++(p3++[]))),[],hW', ?_, ?_, ?_,hb.frame _,fun h=>by cases h⟩;{exact trodAll_mk1 (shut_bool Tryz.underlying4 true)};{exact F5 (shut_int sg wa) (F5 s1 (F5 s2 (F5 tg trodAll_mk0)))};.rfl
theorem named:Tryz.pinned.checked.prog.funcNamed Rows.turnedRow.func=some 10:=by kernel_rfl
theorem inst:Tryz.f10.isInstance Tryz.pinned.checked.prog Rows.turnedRow.origin Rows.turnedRow.targs:=of_decide_eq_true (by kernel_rfl)
theorem wrapped:Tryz.f10.isWrapper Tryz.pinned.checked.prog Rows.turnedRow.wrapper Rows.turnedRow.mainSum:=by unfold Func.isWrapper;first|(rw[if_pos (by decide+kernel)];kernel_rfl)|(rw[if_neg (by decide+kernel)];exact⟨rfl,rfl⟩)
theorem over:Rows.TurnedSaid:=OpenClaim.holds_of_wide_leaving 10 iG rfl rfl rfl rfl rfl rfl rfl ⟨rfl,rfl,rfl,rfl,rfl⟩ rfl rfl rfl rfl rfl named Tryz.func10 facts inst wrapped (fun os started H enc _=>lifted os started H enc)
theorem turned:Rows.TurnedCardSaid:=Yu .later Rows.turnedCard.laidKinds true Rows.turnedCard.stood.harness true true over (by kernel_rfl) turned_row_tie rfl ⟨rfl,rfl⟩ (by kernel_rfl) rfl (fun f fn hf hfn=>by obtain rfl:f=10:=kX ((show Tryz.prog.funcNamed "twig/twigkeep.Turned"=some 10 by kernel_rfl).symm.trans hf)|>.symm;obtain rfl:fn=iG:=(kX (Tryz.func10.symm.trans hfn)).symm;exact⟨by kernel_rfl,fun j t ht=>by rw[Tryz.params10]at ht;(have hm:t∈[3,42,42,42]:=by simpa using Array.mem_of_getElem? ht);(have hall:([3,42,42,42].all fun u=>!Tryz.prog.wantsStandIn u)=true:=by kernel_rfl);exact(show Tryz.prog.wantsStandIn t=false by simpa using List.all_eq_true.1 hall t hm)⟩) (by kernel_rfl)
