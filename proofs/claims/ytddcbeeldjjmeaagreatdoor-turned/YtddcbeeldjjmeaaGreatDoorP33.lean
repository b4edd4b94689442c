/- A MAP's KEYS, SORTED,. -/
import Derived.Test.YtddcbeeldjjmeaaGreatDoorP31
import Derived.Test.YtddcbeeldjjmeaaGreatDoorP32
import Derived.Test.YtddcbeeldjjmeaaGreatDoorP13
set_option maxHeartbeats 1000000
open Go renaming callsIn_wide->oM
open Go.Fence renaming wide->oL
namespace Go.Proofs.YtddcbeeldjjmeaaGreatDoor
open Go Go.RowKit Go.bq Go.bQ au Go.Maps Go.Sort Go.Shelf
set_option linter.unusedVariables false
set_option linter.unusedSimpArgs false
theorem S4(m:Nat):AnyZ.SortsIn Tryz.prog Tryz.JF oL m:=⟨fun blk off cap ss W hH hblk hsz=>oM.2 (AnyM.slices_Sort_string Tryz.JG blk off cap ss W hH hblk hsz),fun p cap W=>oM.2 (AnyM.slices_Sort_string_none Tryz.JG p cap W)⟩
abbrev JH(b:Nat):Value:= .func (.func 138) #[] #[.pointer (some ⟨b,0,none⟩)]
theorem S5(cb:Nat)(w:World):Calls Tryz.prog 88 #[.map (some cb)] w fun e w'=>e= .returned (JH w.heap.size)/\w'=w.alloc (.cells #[.map (some cb)] 144):=oM.1 (AnyZ.keys_in Tryz.JE oL 5 trivial rfl (some cb) w)
theorem S6{w:World}{cb n:Nat}{F:Lit->Option Value}(hM:bu Tryz.prog dp w cb n F)(hn:n<=8000000000000):Calls Tryz.prog 87 #[JH w.heap.size] (w.alloc (.cells #[.map (some cb)] 144)) fun e w'=>∃(v:Value)(L:List (List UInt8)),e= .returned v/\(L.Nodup/\∀k,k∈L↔F (.string k)≠none)/\w'.ownsRow (w.heap.size+1) dp 1 v L.length (L.map encStr)/\Below w.heap.size w w':=by
 obtain⟨D,hown,hsz,hL⟩:=hM.told p5 Tryz.underlying9;have hbl:=hown.lt;have e1:(w.alloc (.cells #[.map (some cb)] 144)).heap.size=w.heap.size+1:=World.size_alloc _ _;have hmax:Maps.size D<=maxLen:=by unfold maxLen;omega
 have hbytes:Maps.size D*16<=140737488355328:=by omega
 have hseq:SeqGives oL 2 Tryz.prog 138 #[.pointer (some ⟨w.heap.size,0,none⟩)] encStr (fun ss=>ss.Perm (strKeys D)) (Maps.size D) (w.alloc (.cells #[.map (some cb)] 144)):=AnyZ.keys_gives (ρ:=Tryz.JD) {Tryz.JE with} oL _ trivial rfl (by omega) w.heap.size cb n D _ (by simp) (by simp) (by obtain⟨es,clock,hb,Ft,hs,hD⟩:=hown;exact⟨es,clock,(Below.heap_alloc _ _ cb hbl).trans hb,Ft,hs,hD⟩);refine(oM.1 (AnyZ.sorted_in Tryz.SZ oL 5 trivial trivial trivial trivial rfl (by omega) (S4 _) (enters_of Tryz.func137 (by kernel_rfl) rfl) 138 #[.pointer (some ⟨w.heap.size,0,none⟩)] trivial (enters_of Tryz.func138 (by kernel_rfl) rfl) _ _ hmax hbytes _ hseq)).mono ?_;rintro e w' ⟨v,ss,rfl,hS,hrow,hnil,hb⟩;rw[e1]at hrow hb;refine⟨v,ss.mergeSort (fun x y=>decide (x<=y)),rfl,hL _ ((List.mergeSort_perm _ _).trans hS), ?_,((Below.refl _ w).alloc (Nat.le_refl _) _).trans (hb.mono (by omega))⟩;rw[List.length_mergeSort];exact hrow
