/- MAPS OF A CALL's OWN,. -/
import Derived.Maps.OwnSet
import Derived.Deep.AppendLies
set_option linter.unusedVariables false
open Go renaming Program->aC,TypeId->ar,Value->ae,World->aa
namespace Go.bQ
open Go Go.Maps
def om:ae->Option (DataW ae×List MemPlace):=fun v=>some (.held v,[])
structure Says(D:DataW ae)(F:Lit->Option ae):Prop where
 has:∀k,Maps.has D k=(F k).isSome
 at':∀k z,D.atKey k z=((F k).map DataW.held).getD z
open Classical in noncomputable def upd(F:Lit->Option ae)(k:Lit)(o:Option ae):Lit->Option ae:=fun j=>if j=k then o else F j
theorem Says.nil:Says (.map []) fun _=>none:=⟨fun _=>rfl,fun _ _=>rfl⟩
theorem Says.put{D:DataW ae}{F:Lit->Option ae}(h:Says D F)(hD:IsMap D){k:Lit}(hk:WideAt.IsKeyLit k)(v:ae):Says (D.put k (.held v)) (upd F k (some v)):=by constructor;{intro j;unfold upd;by_cases e:j=k;{subst e;rw[if_pos rfl,has_put_same hD hk];rfl};.rw[if_neg e,has_put_other e,h.has]};.intro j z;unfold upd;by_cases e:j=k;{subst e;rw[if_pos rfl,atKey_put_same hD hk];rfl};.rw[if_neg e,atKey_put_other e,h.at']
theorem Says.del{D:DataW ae}{F:Lit->Option ae}(h:Says D F)(k:Lit):Says (D.del k) (upd F k none):=by constructor;{intro j;unfold upd;by_cases e:j=k;{subst e;rw[if_pos rfl,has_del_same];rfl};.rw[if_neg e,has_del_other e,h.has]};.intro j z;unfold upd;by_cases e:j=k;{subst e;rw[if_pos rfl,atKey_del_same];rfl};.rw[if_neg e,atKey_del_other e,h.at']
section
variable{P:aC}{K:ar}
def bu(P:aC)(K:ar)(w:aa)(b n:Nat)(F:Lit->Option ae):Prop:=∃D,w.ownsMap P K om b n D/\Says D F
variable{w:aa}{b n:Nat}{F:Lit->Option ae}
theorem bu.lt(h:bu P K w b n F):b<w.heap.size:=by obtain⟨D,h,_⟩:=h;exact h.lt
theorem bu.new(w:aa):bu P K (w.alloc (.map #[] 0)) w.heap.size 0 fun _=>none:=⟨_,World.ownsMap_made w P K om,Says.nil⟩
theorem bu.same{w':aa}(h:bu P K w b n F)(e:w'.heap[b]?=w.heap[b]?):bu P K w' b n F:=by obtain⟨D,⟨es,clock,h1,h2⟩,s⟩:=h;exact⟨D,⟨es,clock,e.trans h1,h2⟩,s⟩
theorem bu.mono(h:bu P K w b n F){m:Nat}(hm:n<=m):bu P K w b m F:=by obtain⟨D,h,s⟩:=h;exact⟨D,h.mono hm,s⟩
theorem Hg{v z:ae}{o:Option ae}{ps:List MemPlace}(h:om v=some ((o.map DataW.held).getD (.held z),ps)):v=o.getD z:=by unfold om at h;cases o with|none=>simp at h;exact h.1|some u=>simp at h;exact h.1
variable{ops:Array Oper}{rest:List Oper}{o:Oper}{a:Act}{Q:Exit->Act->aa->Prop}
theorem O4(hg:o.guard=none)(m x:Operand)(t:ar)(hop:o.op=Op.call {callee:=Callee.builtin Builtin.delete,args:=#[m,x],argTypes:=#[t,K]})(e:ar)(L:Keyed P K)(ht:P.underlying t=some (.map K e))(hm:a.eval m= .map (some b))(h:bu P K w b n F)(key:ae)(kl:Lit)(hx:a.eval x=key)(hkey:keyOf P K key=some kl)(hK:∀w',bu P K w' b n (upd F kl none)->w.grownBy w' (some b)->wpList P ops Q rest (a.put o.dst (.tuple #[])) w'):wpList P ops Q (o::rest) a w:=by obtain⟨D,h,s⟩:=h;exact wpList_delete_own w hg m x t K hop e L ht om b n D hm h key kl hx hkey fun w' h1 h2=>hK w' ⟨_,h1,s.del kl⟩ h2.grown
end
end Go.bQ
namespace Go.bQ
open Go Go.Maps Go.RowKit
variable{P:aC}{K0:ar}{w:aa}{b n:Nat}{F:Lit->Option ae}{ops:Array Oper}{o:Oper}{a:Act}
theorem bu.update(L:Keyed P K0){t e:ar}(ht:P.underlying t=some (.map K0 e))(h:bu P K0 w b n F)(hn:n<maxLen){key:ae}(val:ae){kl:Lit}(hkey:keyOf P K0 key=some kl):∃w',(Instr.mapUpdate t (.map (some b)) key val).run P w= .ok () w'/\bu P K0 w' b (n+1) (upd F kl (some val))/\w.grownBy w' (some b):=by obtain⟨D,h,s⟩:=h;obtain⟨w',hrun,cq,r2⟩:=h.update (R:=om) L ht hn (val:=val) hkey rfl;exact⟨w',hrun,⟨_,cq,s.put h.isMap (L.key hkey) val⟩,r2⟩
theorem bu.look(L:Keyed P K0){t e:ar}(ht:P.underlying t=some (.map K0 e))(h:bu P K0 w b n F){z:ae}(hz:(zeroValue e).run P w= .ok z w){key:ae}{kl:Lit}(hkey:keyOf P K0 key=some kl):(Instr.lookup t (.map (some b)) key true).run P w= .ok (.tuple #[(F kl).getD z, .bool (F kl).isSome]) w:=by obtain⟨D,h,s⟩:=h;obtain⟨v,ps,hrun,hv⟩:=h.look_ok (R:=om) L ht hz (zd:= .held z) (zp:=[]) rfl hkey;rw[s.at']at hv;rw[Hg hv,s.has]at hrun;exact hrun
theorem bu.O5(L:Keyed P K0){t e:ar}(ht:P.underlying t=some (.map K0 e))(h:bu P K0 w b n F){z:ae}(hz:(zeroValue e).run P w= .ok z w){key:ae}{kl:Lit}(hkey:keyOf P K0 key=some kl):(Instr.lookup t (.map (some b)) key false).run P w= .ok ((F kl).getD z) w:=by obtain⟨D,h,s⟩:=h;obtain⟨v,ps,hrun,hv⟩:=h.lookup (R:=om) L ht hz (zd:= .held z) (zp:=[]) rfl hkey;rw[s.at']at hv;rw[Hg hv]at hrun;exact hrun
theorem bu.O6{t e:ar}(ht:P.underlying t=some (.map K0 e))(h:bu P K0 w b n F)(ty:ar):∃w',(Builtin.clear_ #[t] ty #[.map (some b)]).run P w= .ok (.tuple #[]) w'/\bu P K0 w' b 0 (fun _=>none)/\w.grownBy w' (some b):=by obtain⟨D,⟨es,clock,hb,Ft,hs,hD⟩,s⟩:=h;(have hr:(Builtin.clear_ #[t] ty #[.map (some b)]).run P w= .ok (.tuple #[]) {w with heap:=w.heap.setIfInBounds b (.map #[] clock)}:=by simp[Builtin.clear_,run_underlying ht,MapKept.run_getObj_map hb,MapKept.run_setObj_map _ hb,Result.andThen]);refine⟨_,hr,⟨.map [],⟨#[],clock,(MapKept.heap_set hb).1,⟨by simp,MapKept.stamped_empty clock,by simp⟩,by simp,rfl⟩,Says.nil⟩,⟨rfl,rfl,rfl,by simp,fun i _ hi=>(MapKept.heap_set hb).2 i (fun e=>hi (by rw[e]))⟩⟩
theorem jE{w w':aa}(row:Option Nat)(h:Below w.heap.size w w'):w.grownBy w' row:=⟨h.os,h.tape,h.output,h.size,fun i hi _=>h.block i hi⟩
