/- A MAP's KEYS, SORTED, in a new row: alone. -/
import Derived.Test.YtddcbeeldjjmeaaGreatPart31
import Derived.Test.YtddcbeeldjjmeaaGreatPart32
import Derived.Test.YtddcbeeldjjmeaaGreatPart13
namespace Go.Proofs.YtddcbeeldjjmeaaGreat
open Go Go.RowKit Go.Nest Go.Tm Go.Proofs.YtddcbeeldjjmeaaGreat.Tw Go.Maps Go.Sort Go.Shelf
set_option linter.unusedVariables false
set_option linter.unusedSimpArgs false
theorem sorts_in (m : Nat) : AnyZ.SortsIn Tryz.prog Tryz.sortedL_ren Fence.wide m :=
 ⟨fun blk off cap ss W hH hblk hsz => callsIn_wide.2 (AnyM.slices_Sort_string Tryz.sortL blk off cap ss W hH hblk hsz),
  fun p cap W => callsIn_wide.2 (AnyM.slices_Sort_string_none Tryz.sortL p cap W)⟩
abbrev itF (b : Nat) : Value:= .func (.func 47) #[] #[.pointer (some ⟨b, 0, none⟩)]
theorem keys_any (cb : Nat) (w : World) : Calls Tryz.prog 34 #[.map (some cb)] w fun e w' => e = .returned (itF w.heap.size) /\ w' = w.alloc (.cells #[.map (some cb)] 71) :=
 callsIn_wide.1 (AnyZ.keys_in Tryz.keysL Fence.wide 5 trivial rfl (some cb) w)
set_option maxHeartbeats 1000000 in
theorem sorted_keys {w : World} {cb n : Nat} {F : Lit -> Option Value} (hM : MapAt Tryz.prog strT w cb n F) (hn : n <= 8000000000000) :
   Calls Tryz.prog 33 #[itF w.heap.size] (w.alloc (.cells #[.map (some cb)] 71)) fun e w' => ∃ (v : Value) (L : List (List UInt8)), e = .returned v /\ (L.Nodup /\ ∀ k, k ∈ L ↔ F (.string k) ≠ none) /\
     w'.ownsRow (w.heap.size + 1) strT 1 v L.length (L.map encStr) /\ Below w.heap.size w w':= by
 obtain ⟨D, hown, hsz, hL⟩:= hM.told strKeyed Tryz.underlying9
 have hbl:= hown.lt
 have e1 : (w.alloc (.cells #[.map (some cb)] 71)).heap.size = w.heap.size + 1:= World.size_alloc _ _
 have hmax : Maps.size D <= maxLen:= by unfold maxLen; omega
 have hbytes : Maps.size D * 16 <= 140737488355328:= by omega
 have hseq : SeqGives Fence.wide 2 Tryz.prog 47 #[.pointer (some ⟨w.heap.size, 0, none⟩)] encStr (fun ss => ss.Perm (strKeys D)) (Maps.size D) (w.alloc (.cells #[.map (some cb)] 71)) :=
   AnyZ.keys_gives (ρ:= Tryz.keysL_ren) { Tryz.keysL with } Fence.wide _ trivial rfl (by omega) w.heap.size cb n D _ (by simp) (by simp) (by
     obtain ⟨es, clock, hb, Ft, hs, hD⟩:= hown
     exact ⟨es, clock, (Below.heap_alloc _ _ cb hbl).trans hb, Ft, hs, hD⟩)
 refine (callsIn_wide.1 (AnyZ.sorted_in Tryz.sortedL Fence.wide 5 trivial trivial trivial trivial rfl (by omega) (sorts_in _) (enters_of Tryz.func46 (by kernel_rfl) rfl) 47 #[.pointer (some ⟨w.heap.size, 0, none⟩)] trivial (enters_of Tryz.func47 (by kernel_rfl) rfl) _ _ hmax hbytes _ hseq)).mono ?_
 rintro e w' ⟨v, ss, rfl, hS, hrow, hnil, hb⟩
 rw [e1] at hrow hb
 refine ⟨v, ss.mergeSort (fun x y => decide (x <= y)), rfl, hL _ ((List.mergeSort_perm _ _).trans hS), ?_, ((Below.refl _ w).alloc (Nat.le_refl _) _).trans (hb.mono (by omega))⟩
 rw [List.length_mergeSort]
 exact hrow
end Go.Proofs.YtddcbeeldjjmeaaGreat
