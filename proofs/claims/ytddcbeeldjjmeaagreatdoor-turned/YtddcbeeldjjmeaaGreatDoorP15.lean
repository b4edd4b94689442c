/- (*tree.Node).told,. -/
import Derived.Test.YtddcbeeldjjmeaaGreatDoorProg
import Derived.Handy
import Derived.BigQuiet
import Derived.Deep.RegionHeld3
set_option maxRecDepth 20000
set_option maxHeartbeats 8000000
namespace Go.Proofs.YtddcbeeldjjmeaaGreatDoor
open Go Go.RowKit
set_option linter.unusedVariables false
set_option linter.unusedSimpArgs false
theorem Hm(u:World)(b:Nat)(kind:Int)(p v:ByteArray)(hk:kind≠1)(h0:u.cell? ⟨b,0,none⟩=some (.int .i64 kind))(h1:u.cell? ⟨b,1,none⟩=some (.string p))(h2:u.cell? ⟨b,2,none⟩=some (.string v)):Calls Tryz.prog 191 #[.pointer (some ⟨b,0,none⟩)] u fun e _=>e= .returned (.agg #[.int .i64 kind, .string p, .string v, .int .i64 0, .int .i64 0]):=by
 have hb:b<u.heap.size:=by rcases Nat.lt_or_ge b u.heap.size with h|h;{exact h};.simp[World.cell?,Array.getElem?_eq_none h]at h0
 go_enter Tryz.func191,Tryz.ntmps191;go_wp2_with fail;go_region_held3(fun w'=>w'.cell? ⟨b,0,none⟩=some (.int .i64 kind)/\w'.cell? ⟨b,1,none⟩=some (.string p)/\w'.cell? ⟨b,2,none⟩=some (.string v))(go_keep)(fail);have q1:(kind==1)=false:=by simpa using hk
 have q2:decide (kind=1)=false:=decide_eq_false hk;go_wp2_with fail;refine bodyPost_ret (v:= .agg #[.int .i64 kind, .string p, .string v, .int .i64 0, .int .i64 0]) (by simp[results,Tryz.results191,go_sem];try rfl) rfl rfl
theorem told_branch(u:World)(b bl br:Nat)(p v:ByteArray)(dl dr:Int)(h0:u.cell? ⟨b,0,none⟩=some (.int .i64 1))(h1:u.cell? ⟨b,1,none⟩=some (.string p))(h2:u.cell? ⟨b,2,none⟩=some (.string v))(h3:u.cell? ⟨b,3,none⟩=some (.pointer (some ⟨bl,0,none⟩)))(h4:u.cell? ⟨b,4,none⟩=some (.pointer (some ⟨br,0,none⟩)))(h5:u.cell? ⟨bl,5,none⟩=some (.int .i64 dl))(h6:u.cell? ⟨br,5,none⟩=some (.int .i64 dr)):Calls Tryz.prog 191 #[.pointer (some ⟨b,0,none⟩)] u fun e _=>e= .returned (.agg #[.int .i64 1, .string p, .string v, .int .i64 dl, .int .i64 dr]):=by(have hlt:∀{x i:Nat}{y:Value},u.cell? ⟨x,i,none⟩=some y->x<u.heap.size:=fun{x i y}h=>by rcases Nat.lt_or_ge x u.heap.size with h'|h';{exact h'};.simp[World.cell?,Array.getElem?_eq_none h']at h);have hb:=hlt h0;have hbl:=hlt h5;have hbr:=hlt h6;clear hlt;go_enter Tryz.func191,Tryz.ntmps191;go_wp2_with fail;go_region_held3(fun w'=>w'.cell? ⟨b,0,none⟩=some (.int .i64 1)/\w'.cell? ⟨b,1,none⟩=some (.string p)/\w'.cell? ⟨b,2,none⟩=some (.string v))(go_keep)(fail);go_wp2_with fail;go_region_held3(fun w'=>w'.cell? ⟨b,3,none⟩=some (.pointer (some ⟨bl,0,none⟩))/\w'.cell? ⟨b,4,none⟩=some (.pointer (some ⟨br,0,none⟩))/\w'.cell? ⟨bl,5,none⟩=some (.int .i64 dl)/\w'.cell? ⟨br,5,none⟩=some (.int .i64 dr))(go_keep)(fail);go_wp2_with fail;refine bodyPost_ret (v:= .agg #[.int .i64 1, .string p, .string v, .int .i64 dl, .int .i64 dr]) (by simp[results,Tryz.results191,go_sem];try rfl) rfl rfl
