/- A STORE IN MEMORY; one. -/
import Derived.Test.YtddcbeeldjjmeaaGreatDoorP28
import Derived.Test.YtddcbeeldjjmeaaGreatDoorP12
set_option maxRecDepth 20000
set_option maxHeartbeats 4000000
open Go.Proofs.Tryz renaming prog->ag
namespace Go.Proofs.YtddcbeeldjjmeaaGreatDoor
open Go Go.RowKit Go.bq Go.bQ au Go.Maps
set_option linter.unusedVariables false
set_option linter.unusedSimpArgs false
variable{dg:cW}
abbrev kN:TypeId:=147
abbrev dp:TypeId:=9
abbrev eI:TypeId:=3
def cu(w:World)(s:Nat)(wd:Int)(bb cb vb:Nat)(nw:Int):Prop:=w.heap[s]?=some (.cells #[.int .i64 wd, .pointer (ptr bb), .map (some cb), .map (some vb), .int .i64 nw] kN (0,0))
theorem cu.lt{w:World}{s bb cb vb:Nat}{wd nw:Int}(h:cu w s wd bb cb vb nw):s<w.heap.size:=(Array.getElem?_eq_some_iff.1 h).1
theorem cu.cells{w:World}{s bb cb vb:Nat}{wd nw:Int}(h:cu w s wd bb cb vb nw):w.cell? ⟨s,0,none⟩=some (.int .i64 wd)/\w.cell? ⟨s,1,none⟩=some (.pointer (ptr bb))/\w.cell? ⟨s,2,none⟩=some (.map (some cb))/\w.cell? ⟨s,3,none⟩=some (.map (some vb))/\w.cell? ⟨s,4,none⟩=some (.int .i64 nw):=by unfold cu at h;refine⟨?_, ?_, ?_, ?_, ?_⟩<;>simp[World.cell?,h]
theorem cu.frozen{w:World}{s bb cb vb:Nat}{wd nw:Int}(h:cu w s wd bb cb vb nw)(o:Nat):w.frozen? ⟨s,o,none⟩=false:=by unfold cu at h;simp[World.frozen?,h]
theorem cu.same{w w':World}{s bb cb vb:Nat}{wd nw:Int}(h:cu w s wd bb cb vb nw)(e:w'.heap[s]?=w.heap[s]?):cu w' s wd bb cb vb nw:=e.trans h
theorem R1(wd:Int)(w:World):Calls ag 110 #[.int .i64 wd] w fun e w'=>∃s bb cb vb,e= .returned (.pointer (ptr s))/\cu w' s wd bb cb vb 0/\bm dg w' .empty bb/\bu ag dp w' cb 0 (fun _=>none)/\bu ag eI w' vb 0 (fun _=>none)/\cb≠vb/\w.heap.size<=s/\w.heap.size<=cb/\w.heap.size<=vb/\Below w.heap.size w w':=by have hmm:=@run_makeMap ag;go_enter Tryz.func110,Tryz.ntmps110;go_wp2_with(go_at_call 167;refine(IK _).mono ?_;rintro e w3 ⟨bK,rfl,hN1,hB1⟩);go_ret;have hz:=hB1.size;have hm1:=bu.new (P:=ag) (K:=dp) w3;have hm2:=bu.new (P:=ag) (K:=eI) (w3.alloc (.map #[] 0));have hlt1:=hm1.lt;have hlt2:=hm2.lt;have q1:(w3.alloc (.map #[] 0)).heap.size=w3.heap.size+1:=World.size_alloc _ _;(have q2:((w3.alloc (.map #[] 0)).alloc (.map #[] 0)).heap.size=w3.heap.size+2:=by rw[World.size_alloc,q1]);have hB2:Below w3.heap.size w3 (((w3.alloc (.map #[] 0)).alloc (.map #[] 0)).alloc (.cells #[.int .i64 wd, .pointer (ptr bK), .map (some w3.heap.size), .map (some (w3.heap.size+1)), .int .i64 0] kN)):=(((Below.refl _ w3).alloc (Nat.le_refl _) _).alloc (by rw[q1];omega) _).alloc (by rw[q2];omega) _;refine⟨w3.heap.size+2,bK,w3.heap.size,w3.heap.size+1,rfl, ?_, ?_, ?_, ?_,by omega,by omega,hz,by omega,dn hB1 hB2⟩;{have h:=heap_alloc_new ((w3.alloc (.map #[] 0)).alloc (.map #[] 0)) (.cells #[.int .i64 wd, .pointer (ptr bK), .map (some w3.heap.size), .map (some (w3.heap.size+1)), .int .i64 0] kN);rw[q2]at h;exact h};{exact bm.below (t:= .empty) ⟨trivial,0,false,hN1,fun e=>by cases e⟩ hB2};{exact(hm1.same (w':=(w3.alloc (.map #[] 0)).alloc (.map #[] 0)) (Below.heap_alloc _ _ _ hlt1)).same (Below.heap_alloc _ _ _ (by rw[q2];omega))};.have h:=hm2.same (w':=((w3.alloc (.map #[] 0)).alloc (.map #[] 0)).alloc (.cells #[.int .i64 wd, .pointer (ptr bK), .map (some w3.heap.size), .map (some (w3.heap.size+1)), .int .i64 0] kN)) (Below.heap_alloc _ _ _ hlt2);rw[q1]at h;exact h
theorem R2(wd:Int)(w:World)(h1:1<=wd)(h2:wd<=32):Calls ag 65 #[.int .i64 wd] w fun e w'=>∃s bb cb vb,e= .returned (.tuple #[.pointer (ptr s), .int .i64 0])/\cu w' s wd bb cb vb 0/\bm dg w' .empty bb/\bu ag dp w' cb 0 (fun _=>none)/\bu ag eI w' vb 0 (fun _=>none)/\cb≠vb/\w.heap.size<=s/\w.heap.size<=cb/\w.heap.size<=vb/\Below w.heap.size w w':=by have hw:=fun w=>RQ wd w;rw[decide_eq_true (show 1<=wd/\wd<=32 from⟨h1,h2⟩)]at hw;have hf:=fun w=>R1 (dg:=dg) wd w;go_enter Tryz.func65,Tryz.ntmps65;go_wp2_with(first|(go_at_call 78;refine(hw _).mono ?_;rintro e w' ⟨rfl,hw1⟩;have hw2:=hw1.symm;subst hw2;clear hw1)|(go_at_call 110;refine(hf _).mono ?_;rintro e w2 ⟨s,bb,cb,vb,rfl,k⟩));exact bodyPost_ret (v:= .tuple #[.pointer (ptr s), .int .i64 0]) (by simp[results,Tryz.results65,go_sem];try rfl) rfl ⟨s,bb,cb,vb,rfl,k⟩
