/- EncodeNode: the program's. -/
import Derived.Test.YtddcbeeldjjmeaaGreatPart17
import Derived.Deep.RegionWith
namespace Go.Proofs.YtddcbeeldjjmeaaGreat.Tw
open Go.RowKit Go.Proofs.YtddcbeeldjjmeaaGreat.Pu
set_option linter.unusedVariables false
set_option linter.unusedSimpArgs false
theorem Own.one (base : Nat) (w : World) (c : UInt8) (x : Int) (hx : x = c.toNat) (hb : base <= w.heap.size) : Own base (w.alloc (.cells #[.int .u8 x] 5)) (.slice (some ⟨w.heap.size, 0, none⟩) 1 1) [c] := by
 subst hx
 refine ⟨by simp [cellsB], Or.inr ⟨w.heap.size, 1, _, rfl, hb, heap_alloc_new w _, Nat.le_refl _, by decide, by simp, by simp [cellsB]⟩⟩
theorem Own.drew {base : Nat} {w : World} {v : Value} {l : List UInt8} (h : Own base w v l) : Own base w.drew v l := h
theorem ePath_len (p : List UInt8) (h : isP p) : (ePath p).length <= 15 := by
 unfold ePath
 have h1 := eNumF_len 10 p.length
 have h2 := h.2
 rw [List.length_append, pack_length]
 unfold eNum
 omega
theorem Own.text {base : Nat} {w : World} {v : Value} {l : List UInt8} (h : Own base w v l) (h0 : l ≠ []) : ∃ a cap, v = .slice (some a) l.length cap /\ (Go.convert 93 9 v).run Tryz.prog w = .ok (.string (S l)) w := by
 obtain ⟨h1, ⟨rfl, h2⟩ | ⟨g, cap, cur, rfl, hg, hb, hn, hcap, hcs, htk⟩⟩ := h
 . exact absurd (List.length_eq_zero_iff.1 h2) h0
 . refine ⟨⟨g, 0, none⟩, cap, rfl, ?_⟩
   refine run_convert_bytes_back (P := Tryz.prog) w 93 9 5 ⟨g, 0, none⟩ cap l Tryz.underlying93 Tryz.underlying5 Tryz.underlying9 (fun j hj => ?_)
   have ea : (⟨g, 0, none⟩ : Addr).add j = ⟨g, j, none⟩ := by cases j <;> simp [Addr.add]
   rw [ea]
   have hc : cur.toList[j]? = some (.int .u8 l[j].toNat) := by
     have h3 : (cellsB l)[j]? = some (.int .u8 l[j].toNat) := by simp [cellsB, hj]
     rw [<- htk, List.getElem?_take] at h3
     rw [if_pos (by omega)] at h3
     exact h3
   rw [Array.getElem?_toList] at hc
   simp [World.cell?, hb, hc]
theorem Own.run {base : Nat} {w : World} {v : Value} {l : List UInt8} (h : Own base w v l) (h0 : l ≠ []) : (Go.convert 93 9 v).run Tryz.prog w = .ok (.string (S l)) w := by
 obtain ⟨_, _, _, h1⟩ := h.text h0
 exact h1
set_option maxRecDepth 20000 in
set_option maxHeartbeats 1000000 in
theorem put_leaf (p v : List UInt8) (w : World) (hp : isPb p = true) (hv : v.length <= 20) :
   Calls Tryz.prog 65 #[nodeV ⟨0, p, v, 0, 0⟩] w fun e w' => e = .returned (.string (S (0 :: (ePath p ++ eVal v)))) /\ Below w.heap.size w w' := by
 have hP := (isPb_iff p).1 hp
 have h37 := hP.2
 have hO : ∀ o, Own (w.heap.size + 1) ((w.alloc o).alloc (.cells #[.int .u8 0] 5)) (.slice (some ⟨w.heap.size + 1, 0, none⟩) 1 1) [0] := fun o => by
   have h := Own.one (w.heap.size + 1) (w.alloc o) 0 0 rfl (by simp)
   rwa [World.size_alloc] at h
 have hpl := ePath_len p hP
 unfold nodeV
 go_enter Tryz.func65, Tryz.ntmps65
 go_wp2_with fail
 go_region_with (first
   | (go_at_call 85; refine (addPath_any (w.heap.size + 1) _ [0] p _ hP (by simp) (by first | exact hO _ | exact (hO _).drew) (by simp)).mono ?_; rintro e w2 ⟨v2, rfl, hO2, hB2⟩; have hcc := fun o => hB2.cell (p := ⟨w.heap.size, o, none⟩) (by show w.heap.size < w.heap.size + 1; omega))
   | (go_at_call 84; refine (addText_any (w.heap.size + 1) _ ([0] ++ ePath p) v _ (by omega) (by rw [List.length_append]; simp; omega) (by first | exact hO2 | exact hO2.drew) (by have := hB2.size; simp at this; omega)).mono ?_; rintro e w3 ⟨v3, rfl, hO3, hB3⟩))
 all_goals
   have ht1 := hO3.run (by simp)
   have ht2 := hO3.drew.run (by simp)
   have hb0 : Below w.heap.size w ((w.alloc (.cells #[.int .i64 0, .string (S p), .string (S v), .int .i64 0, .int .i64 0] 112)).alloc (.cells #[.int .u8 0] 5)) := ((Below.refl _ w).alloc (Nat.le_refl _) _).alloc (by simp) _
   have h12 : Below w.heap.size w w2 := by first | exact hb0.trans (hB2.mono (by omega)) | exact hb0.drew.trans (hB2.mono (by omega))
   have h13 : Below w.heap.size w w3 := by first | exact h12.trans (hB3.mono (by omega)) | exact h12.drew.trans (hB3.mono (by omega))
   clear hO hO2 hO3 hB2 hB3 hb0 hcc h12
   simp only [Exit.inBlock, Exit.then]
   repeat go_step
   go_ret
   refine ⟨?_, by first | exact h13 | exact h13.drew⟩
   rfl
set_option maxRecDepth 20000 in
set_option maxHeartbeats 2000000 in
theorem put_branch (p : List UInt8) (x y : Int) (w : World) (hp : isPb p = true) (hx : is32 x = true) (hy : is32 y = true) :
   Calls Tryz.prog 65 #[nodeV ⟨1, p, [], x, y⟩] w fun e w' => e = .returned (.string (S (1 :: (ePath p ++ (e4 x.toNat ++ e4 y.toNat))))) /\ Below w.heap.size w w' := by
 have hP := (isPb_iff p).1 hp
 have h37 := hP.2
 have hx2 : 0 <= x /\ x < 4294967296 := by simpa [is32] using hx
 have hy2 : 0 <= y /\ y < 4294967296 := by simpa [is32] using hy
 clear hx hy
 have hO : ∀ o, Own (w.heap.size + 1) ((w.alloc o).alloc (.cells #[.int .u8 1] 5)) (.slice (some ⟨w.heap.size + 1, 0, none⟩) 1 1) [1] := fun o => by
   have h := Own.one (w.heap.size + 1) (w.alloc o) 1 1 rfl (by simp)
   rwa [World.size_alloc] at h
 have hpl := ePath_len p hP
 have hpl2 : ([1] ++ ePath p).length <= 16 := by rw [List.length_append]; simp; omega
 have hpl3 : ([1] ++ ePath p ++ e4 x.toNat).length <= 20 := by rw [List.length_append]; simp [e4] at hpl2 ⊢; omega
 unfold nodeV
 go_enter Tryz.func65, Tryz.ntmps65
 go_wp2_with fail
 go_region_with (first
   | (go_at_call 85; refine (addPath_any (w.heap.size + 1) _ [1] p _ hP (by simp) (by first | exact hO _ | exact (hO _).drew) (by simp)).mono ?_; rintro e w2 ⟨v2, rfl, hO2, hB2⟩; have hcc := fun o => hB2.cell (p := ⟨w.heap.size, o, none⟩) (by show w.heap.size < w.heap.size + 1; omega); have tok : True := trivial)
   | (go_at_call 86; have _t := tok; refine (addFour_any (w.heap.size + 1) _ ([1] ++ ePath p) x _ hx2.1 hx2.2 (by omega) (by first | exact hO2 | exact hO2.drew) (by have := hB2.size; simp at this; omega)).mono ?_; rintro e w3 ⟨v3, rfl, hO3, hB3⟩; have hcc3 := fun o => hB3.cell (p := ⟨w.heap.size, o, none⟩) (by show w.heap.size < w.heap.size + 1; omega); clear tok)
   | (go_at_call 86; refine (addFour_any (w.heap.size + 1) _ ([1] ++ ePath p ++ e4 x.toNat) y _ hy2.1 hy2.2 (by omega) (by first | exact hO3 | exact hO3.drew) (by have := hB2.size; have := hB3.size; simp at *; omega)).mono ?_; rintro e w4 ⟨v4, rfl, hO4, hB4⟩))
 all_goals
   have ht1 := hO4.run (by simp)
   have ht2 := hO4.drew.run (by simp)
   have hb0 : Below w.heap.size w ((w.alloc (.cells #[.int .i64 1, .string (S p), .string (S []), .int .i64 x, .int .i64 y] 112)).alloc (.cells #[.int .u8 1] 5)) := ((Below.refl _ w).alloc (Nat.le_refl _) _).alloc (by simp) _
   have h12 : Below w.heap.size w w2 := by first | exact hb0.trans (hB2.mono (by omega)) | exact hb0.drew.trans (hB2.mono (by omega))
   have h13 : Below w.heap.size w w3 := by first | exact h12.trans (hB3.mono (by omega)) | exact h12.drew.trans (hB3.mono (by omega))
   have h14 : Below w.heap.size w w4 := by first | exact h13.trans (hB4.mono (by omega)) | exact h13.drew.trans (hB4.mono (by omega))
   clear hO hO2 hO3 hO4 hB2 hB3 hB4 hb0 hcc hcc3 h12 h13
   simp only [Exit.inBlock, Exit.then]
   repeat go_step
   go_ret
   refine ⟨?_, by first | exact h14 | exact h14.drew⟩
   rfl
set_option maxRecDepth 20000 in
set_option maxHeartbeats 1000000 in
theorem put_empty (w : World) :
   Calls Tryz.prog 65 #[nodeV empty] w fun e w' => e = .returned (.string (S [2])) /\ Below w.heap.size w w' := by
 have hO : ∀ o, Own (w.heap.size + 1) ((w.alloc o).alloc (.cells #[.int .u8 2] 5)) (.slice (some ⟨w.heap.size + 1, 0, none⟩) 1 1) [2] := fun o => by
   have h := Own.one (w.heap.size + 1) (w.alloc o) 2 2 rfl (by simp)
   rwa [World.size_alloc] at h
 have ht1 := fun o => (hO o).run (by simp)
 unfold nodeV empty
 clear hO
 go_enter Tryz.func65, Tryz.ntmps65
 go_wp2
 go_ret
 exact ⟨rfl, ((Below.refl _ w).alloc (Nat.le_refl _) _).alloc (by simp) _⟩
theorem put_ok (n : Nd) (b : List UInt8) (w : World) (h : encN n = some b) :
   Calls Tryz.prog 65 #[nodeV n] w fun e w' => e = .returned (.string (S b)) /\ Below w.heap.size w w' := by
 unfold encN at h
 by_cases he : n = empty
 . rw [if_pos he] at h; cases h; subst he; exact put_empty w
 . rw [if_neg he] at h
   by_cases h1 : n.kind = 0 /\ isPb n.path = true /\ n.value.length <= 20 /\ n.left = 0 /\ n.right = 0
   . rw [if_pos h1] at h; cases h
     obtain ⟨k, p, v, x, y⟩ := n
     simp only at h1
     obtain ⟨rfl, hp, hv, rfl, rfl⟩ := h1
     exact put_leaf p v w hp hv
   . rw [if_neg h1] at h
     by_cases h2 : n.kind = 1 /\ isPb n.path = true /\ n.value = [] /\ is32 n.left = true /\ is32 n.right = true
     . rw [if_pos h2] at h; cases h
       obtain ⟨k, p, v, x, y⟩ := n
       simp only at h2
       obtain ⟨rfl, hp, rfl, hx, hy⟩ := h2
       exact put_branch p x y w hp hx hy
     . rw [if_neg h2] at h; cases h
end Go.Proofs.YtddcbeeldjjmeaaGreat.Tw
