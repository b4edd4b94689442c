/- EXPORT: (*Node).Nodes;. -/
import Derived.Test.YtddcbeeldjjmeaaGreatDoorP45
import Derived.Test.YtddcbeeldjjmeaaGreatDoorP46
set_option maxRecDepth 100000
set_option maxHeartbeats 4000000
namespace Go.Proofs.YtddcbeeldjjmeaaGreatDoor
open Go Go.RowKit Go.bq Go.bQ Go.Shelf
set_option linter.unusedVariables false
set_option linter.unusedSimpArgs false
attribute[local go_sem]Oper.semAt_some
def nI(x:bp.bG):Prop:=bp.iV x=some (au.gq x)
abbrev wG:={x:bp.bG//nI x}
def KL(x:wG):Array Value:=#[au.kJ x.1]
theorem Wn(n:Nat){dg:cW}{lL w:World}{t:T ByteArray}{b B:Nat}(hok:∀x∈bW dg t,nI x)(hT:jL dg lL t b)(hB0:Below lL.heap.size lL w)(hBw:B<w.heap.size)(hc:w.cell? ⟨B,0,none⟩=some (.pointer (ptr b))):SeqStopsK Fence.wide n Tryz.prog 144 #[.pointer (some ⟨B,0,none⟩)] KL (Below lL.heap.size) (fun ys=>ys.unattach=bW dg t) (fun _=>True) (bW dg t).length w:=fun l J Jx W hW hJ hJx hY h0=>by(have hdd:∀k:Nat,(Fence.wide.depth.isSome=true->1<=k):=fun k h=>by cases h);have hcW:=(hW.cell (p:=⟨B,0,none⟩) hBw).trans hc;have hp:=Wk dg nI l (bW dg t).length lL (fun s W=>∃gW:List wG,gW.unattach=s/\J gW W) (fun s W=>∃gW:List wG,gW.unattach=s/\Jx gW W) (fun s A C ⟨gW,e,h⟩hg=>⟨gW,e,hJ gW A C none h hg (fun r e=>by cases e)⟩) (fun m pre x W1 hx ⟨gW,e,h⟩hl=>Wj m (YieldAt.mono (hY gW ⟨x,hx⟩ W1 h (by rw[<-List.length_unattach,e];exact hl)) fun e' W2 h2=>h2.elim (fun⟨h3,h4,h5⟩=> .inl ⟨h3,⟨_,by simp[e],h4⟩,h5⟩) (fun⟨h3,h4⟩=> .inr ⟨h3,⟨_,by simp[e],h4⟩⟩))) t (n-1) b [] W hok hT (hB0.trans (hW.mono hB0.size)) ⟨[],rfl,h0⟩ (by simp);refine callsIn_of_wp Tryz.func144 rfl trivial ?_ rfl;simp only[Tryz.ntmps144,ptr,List.size_toArray,List.length_cons,List.length_nil,Nat.reduceAdd,Nat.reduceSub,Array.replicate_succ,Array.replicate_zero,List.push_toArray,List.append_toArray,List.nil_append,List.cons_append]at hcW hp⊢;gi_wp2_with(refine⟨trivial,hdd _, ?_⟩;gi_at_call 145;refine hp.mono ?_;clear hp;rintro e W1 (⟨rfl,⟨gW,e1,hJ1⟩,hB1⟩|⟨rfl,q,hq,gW,e1,hx1⟩));{go_end0;exact⟨⟨_,rfl⟩, .inl ⟨gW,by simpa using e1,hJ1⟩⟩};.go_end0;exact⟨⟨_,rfl⟩, .inr ⟨gW,trivial,hx1⟩⟩
theorem Wo(b:Nat)(w:World):Calls Tryz.prog 95 #[.pointer (ptr b)] w fun e w'=>e= .returned (.func (.func 144) #[] #[.pointer (some ⟨w.heap.size,0,none⟩)])/\w'=w.alloc (.cells #[.pointer (ptr b)] 135):=by go_enter Tryz.func95,Tryz.ntmps95;go_wp2_with fail;go_ret;exact⟨rfl,rfl⟩
