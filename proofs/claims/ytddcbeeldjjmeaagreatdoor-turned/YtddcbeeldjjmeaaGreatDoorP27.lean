/- A TREE'S PAIRS, made. -/
import Derived.Test.YtddcbeeldjjmeaaGreatDoorP26
import Derived.Deep.AppendLies
set_option maxRecDepth 20000
set_option maxHeartbeats 4000000
open Go renaming Calls->aH,Value->ae,World->aa
open Go.Proofs.Tryz renaming func190->MW,ntmps190->MX,prog->ag
namespace Go.Proofs.YtddcbeeldjjmeaaGreatDoor
open Go Go.RowKit Go.bq Go.bQ au
set_option linter.unusedVariables false
set_option linter.unusedSimpArgs false
def pY(u:ByteArray×ByteArray):List ae:=[.string u.1, .string u.2]
def dM(us:List (ByteArray×ByteArray)):List ae:=(us.map pY).flatten
theorem CV(us:List (ByteArray×ByteArray))(u:ByteArray×ByteArray):dM (us++[u])=dM us++pY u:=by simp[dM]
theorem rm(us:List (ByteArray×ByteArray)):(dM us).length=us.length*2:=by induction us with|nil=>rfl|cons u us ih=>unfold dM at ih⊢;simp[pY,ih];omega
def bH(base:Nat)(w:aa)(v:ae)(ps:List (ByteArray×ByteArray)):Prop:=w.ownsRow base 85 2 v ps.length (dM ps)
theorem bH.nil(base:Nat)(w:aa):bH base w (.slice none 0 0) []:=⟨by simp[dM],Or.inl ⟨rfl,rfl⟩⟩
theorem bH.block{base:Nat}{w:aa}{v:ae}{l:List (ByteArray×ByteArray)}(h:bH base w v l):∀k,v.ownBlock=some k->base<=k:=by intro k hk;obtain⟨_,⟨rfl,_⟩|⟨g,cap,cur,rfl,hg,_⟩⟩:=h;{simp[Value.ownBlock]at hk};.simp[Value.ownBlock]at hk;omega
theorem bH.below{base:Nat}{w w':aa}{v:ae}{l:List (ByteArray×ByteArray)}(h:bH base w v l)(B:Below w.heap.size w w'):bH base w' v l:=by obtain⟨h1,⟨rfl,h2⟩|⟨g,cap,cur,rfl,hg,hh,hr⟩⟩:=h;{exact⟨h1, .inl ⟨rfl,h2⟩⟩};.refine⟨h1, .inr ⟨g,cap,cur,rfl,hg, ?_,hr⟩⟩;rw[B.block g (Array.getElem?_eq_some_iff.1 hh).1];exact hh
theorem yT:(Tryz.prog.info? 85).map (fun i=>(i.zero,i.size,i.bytes))=some (some (.agg #[.string ⟨#[]⟩, .string ⟨#[]⟩]),2,32):=by kernel_rfl
theorem RS{w:aa}{b base:Nat}{A0 P0 V0 K0:ByteArray}{l r:Option Addr}{d:Int}{sl:Bool}{v:ae}{ps:List (ByteArray×ByteArray)}(hN:aS bI w b 0 P0 V0 l r d sl)(hb:b<base)(hbase:base<=w.heap.size)(aj:A0.size<=1000)(hP:P0.size<=1000)(hps:ps.length<=100000)(hO:bH base w v ps)(hkey:∀w,aH ag 256 #[.string (A0++P0)] w fun e w'=>e= .returned (.string K0)/\Below w.heap.size w w')(hcl:∀w,aH ag 86 #[.string V0] w fun e w'=>e= .returned (.string V0)/\Below w.heap.size w w'):aH ag 190 #[.pointer (some ⟨b,0,none⟩), .string A0,v] w fun e w'=>∃v',e= .returned v'/\bH base w' v' (ps++[(K0,V0)])/\Below base w w':=by
 obtain⟨h0,h1,h2,h3,h4,h5⟩:=aS.cells hN;have hbw:=aS.lt hN;obtain⟨i0,hi,hz0,hz1,hz2⟩:=info_parts yT;have f1:¬(9223372036854775807<A0.size+P0.size):=by omega
 have f2:A0.size+P0.size<=9223372036854775807:=by omega
 have hbk:=hO.block;have hne:some b≠v.ownBlock:=fun e=>by have:=hbk _ e.symm;omega
 have hA1:∀n:Nat,(w.drewN n).cell? ⟨b,2,none⟩=some (.string V0):=fun n=>h2;have hA2:w.drew.cell? ⟨b,2,none⟩=some (.string V0):=h2;go_enter MW,MX;go_wp2_with fail;go_region_held3(fun w'=>w'.cell? ⟨b,2,none⟩=some (.string V0))(first|go_keep|(rw[hgrow.cell_far _ (by simp;omega) hne];assumption)|(simp[hgrow.cell_far ⟨b,2,none⟩ (by simp;omega) hne, *]))(first|(go_at_call 256;refine(hkey _).mono ?_;rintro e w2 ⟨rfl,hB2⟩;have hO2:=bH.below (w:=w.drew) hO hB2;have hy2:w.heap.size<=w2.heap.size:=hB2.size;have hc2:=hB2.cell (p:=⟨b,2,none⟩) (by show b<_;exact hbw))|(go_at_call 86;refine(hcl _).mono ?_;rintro e w3 ⟨rfl,hB3⟩;have hO3:=bH.below hO2 hB3;have hy3:w2.heap.size<=w3.heap.size:=hB3.size;have hc3:=hB3.cell (p:=⟨b,2,none⟩) (by show b<_;have hzz:w.heap.size<=w2.heap.size:=hB2.size;omega))|(unfold bH at hO3;refine step_append_lies _ (by rfl) _ _ _ (by rfl) base 85 i0 _ 2 32 Tryz.underlying67 hi hz0 hz1 hz2 rfl (by decide) _ ps.length (dM ps) (by rfl) (World.ownsRow.alloc (w:=w3) hO3 _) ⟨w3.heap.size,0,none⟩ 1 1 _ (by rfl) (by rfl) (World.news_of_block (heap_alloc_new w3 _)) (by intro u hu;simp at hu;rcases hu with rfl|rfl<;>rfl) (by decide) (by unfold maxLen;omega) (by omega) (by simp;omega) _ rfl ?_;intro g cap w1 hown1 hgrow hat hlt));have hb3:Below base w w3:=(dn (dn (eJ w.heap.size w 1) hB2) hB3).mono hbase;have hB1:Below base w w1:=(hb3.alloc (by omega) _).grown hgrow (by simp;omega) hbk;have fZ:bH base w1 (.slice (some ⟨g,0,none⟩) (ps.length+1) cap) (ps++[(K0,V0)]):=by unfold bH;rw[CV,List.length_append];exact hown1
 clear hown1 hgrow hat hlt hO hO2 hO3;try simp only[Exit.inBlock,Exit.then]
 go_wp2_with fail;go_ret;exact⟨_,rfl,fZ,hB1⟩
theorem RU{w:aa}{b:Nat}{A0 P0 V0:ByteArray}{l r:Option Addr}{d:Int}{sl:Bool}{v:ae}(hN:aS bI w b 2 P0 V0 l r d sl)(aj:A0.size<=1000)(hP:P0.size<=1000):aH ag 190 #[.pointer (some ⟨b,0,none⟩), .string A0,v] w fun e w'=>e= .returned v/\w'=w:=by
 obtain⟨h0,h1,h2,h3,h4,h5⟩:=aS.cells hN;have hbw:=aS.lt hN;have f1:¬(9223372036854775807<A0.size+P0.size):=by omega
 have f2:A0.size+P0.size<=9223372036854775807:=by omega
 go_enter MW,MX;go_wp2_with fail;go_ret;exact⟨rfl,rfl⟩
theorem RV{w:aa}{b:Nat}{A0 P0 AP S0 S1 L0 L1:ByteArray}{bl br:Nat}{d:Int}{sl:Bool}{v:ae}{R:Nat->aa->ae->Prop}(hN:aS bI w b 1 P0 cr (ptr bl) (ptr br) d sl)(aj:A0.size<=1000)(hP:P0.size<=1000)(aaG:A0++P0=AP)(hAs:AP.size<=2000)(hS0:S0.size=1)(hS1:S1.size=1)(hL0:AP++S0=L0)(hL1:AP++S1=L1)(hs0:∀w,aH ag 207 #[.int .i64 0] w fun e w'=>e= .returned (.string S0)/\w'=w)(hs1:∀w,aH ag 207 #[.int .i64 1] w fun e w'=>e= .returned (.string S1)/\w'=w)(hR:R 0 w v)(hl:∀w v,R 0 w v->aH ag 190 #[.pointer (some ⟨bl,0,none⟩), .string L0,v] w fun e w'=>∃v',e= .returned v'/\R 1 w' v')(hr:∀w v,R 1 w v->aH ag 190 #[.pointer (some ⟨br,0,none⟩), .string L1,v] w fun e w'=>∃v',e= .returned v'/\R 2 w' v'):aH ag 190 #[.pointer (some ⟨b,0,none⟩), .string A0,v] w fun e w'=>∃v',e= .returned v'/\R 2 w' v':=by
 obtain⟨h0,h1,h2,h3,h4,h5⟩:=aS.cells hN;have hbw:=aS.lt hN;have f1:¬(9223372036854775807<A0.size+P0.size):=by omega
 have f2:A0.size+P0.size<=9223372036854775807:=by omega
 have f3:¬(9223372036854775807<AP.size+1):=by omega
 have f4:AP.size<9223372036854775807:=by omega
 have f5:¬(9223372036854775807<=AP.size):=by omega
 simp only[ptr]at h3 h4;have hx0:∀W:aa,(Instr.index 200 (.agg #[.pointer (some ⟨bl,0,none⟩), .pointer (some ⟨br,0,none⟩)]) (.int .i64 0)).run ag W= .ok (.pointer (some ⟨bl,0,none⟩)) W:=fun W=>by rfl
 have hx1:∀W:aa,(Instr.index 200 (.agg #[.pointer (some ⟨bl,0,none⟩), .pointer (some ⟨br,0,none⟩)]) (.int .i64 1)).run ag W= .ok (.pointer (some ⟨br,0,none⟩)) W:=fun W=>by rfl
 go_enter MW,MX;go_wp2_with fail;go_loopw[2,39](fun v i wr=>(i= .int .i64 0/\R 0 wr v)\/(i= .int .i64 1/\R 1 wr v)\/(i= .int .i64 2/\R 2 wr v))(fun _ i _=>2-(intOf i).toNat);case atStart=>exact .inl ⟨rfl,hR⟩
 case round=>rcases hrel with⟨rfl,hRk⟩|⟨rfl,hRk⟩|⟨rfl,hRk⟩;{go_wp2_with(first|(go_at_call 207;refine(hs0 _).mono ?_;rintro e w' ⟨rfl,hw⟩;have hw2:=hw.symm;subst hw2;clear hw)|(go_at_call 190;refine(hl _ _ hRk).mono ?_;rintro e w2 ⟨v2,rfl,hR2⟩));go_roundw;(case rel=>exact .inr (.inl ⟨by go_num,hR2⟩));case measure=>simp[intOf]};{go_wp2_with(first|(go_at_call 207;refine(hs1 _).mono ?_;rintro e w' ⟨rfl,hw⟩;have hw2:=hw.symm;subst hw2;clear hw)|(go_at_call 190;refine(hr _ _ hRk).mono ?_;rintro e w2 ⟨v2,rfl,hR2⟩));go_roundw;(case rel=>exact .inr (.inr ⟨by go_num,hR2⟩));case measure=>simp[intOf]};.go_wp2_with fail;go_ret;exact⟨_,rfl,hRk⟩
