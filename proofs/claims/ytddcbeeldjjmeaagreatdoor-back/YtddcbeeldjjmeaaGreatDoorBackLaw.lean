/- The law Back: right nodes, proofs and manifests come back out of their bytes as they were. -/
import Derived.Test.YtddcbeeldjjmeaaGreatDoorBack6
import Derived.Test.YtddcbeeldjjmeaaGreatDoorStrictLaw
namespace Go.Proofs.YtddcbeeldjjmeaaGreatDoor.Tw
open Go.RowKit Go.Proofs.YtddcbeeldjjmeaaGreatDoor.Pu
set_option linter.unusedVariables false
set_option linter.unusedSimpArgs false

theorem encP_of (m : Nd) (b : List UInt8) (us : List Us) (hn : encN m = some b) (h : okUs us = true) : encP ⟨m, us⟩ = some (prfB b us) := by
  unfold encP
  simp only [hn, if_pos h]
  rfl
theorem prfB_len (m : Nd) (b : List UInt8) (us : List Us) (hn : encN m = some b) (h : okUs us = true) : (prfB b us).length ≤ 600 := by
  obtain ⟨hl, hu⟩ := (okUs_iff us).1 h
  have h1 := encN_len m b hn
  have h2 := eUs_len us hu us.length
  rw [List.take_length] at h2
  have h3 : (eNum b.length).length ≤ 10 := eNumF_len 10 b.length
  have h4 : (eNum us.length).length ≤ 10 := eNumF_len 10 us.length
  unfold prfB
  simp only [List.length_append]
  omega
theorem encM_of (m : Mf) (h : okM m = true) : ∃ b, encM m = some b ∧ b.length ≤ 500000 := by
  unfold encM
  rw [if_pos h]
  refine ⟨_, rfl, ?_⟩
  have h1 := okM_len m h
  have h3 : (eNum m.size.toNat).length ≤ 10 := eNumF_len 10 m.size.toNat
  have h4 : (eNum m.total.toNat).length ≤ 10 := eNumF_len 10 m.total.toNat
  simp only [List.length_append, List.length_cons, eDs_len, e4, List.length_nil]
  omega

theorem sz_set (w : World) (a : Addr) (v : Value) : (w.setCell a v).heap.size = w.heap.size := by simp [World.setCell]
/-- Six stores into one block. -/
theorem store6 (w4 W : World) (P : Nat) (c0 c1 c2 c3 c4 c5 d0 d1 d2 d3 d4 d5 : Value) (T : TypeId) (h : w4.heap[P]? = some (.cells #[d0, d1, d2, d3, d4, d5] T (0, 0)))
    (hW : W = ((((((w4.setCell ⟨P, 0, none⟩ c0).setCell ⟨P, 1, none⟩ c1).setCell ⟨P, 2, none⟩ c2).setCell ⟨P, 3, none⟩ c3).setCell ⟨P, 4, none⟩ c4).setCell ⟨P, 5, none⟩ c5)) :
    C6 P c0 c1 c2 c3 c4 c5 W ∧ (∀ j, j ≠ P → W.heap[j]? = w4.heap[j]?) ∧ W.heap.size = w4.heap.size ∧ (∀ B w, B ≤ P → Below B w w4 → Below B w W) := by
  subst hW
  refine ⟨?_, fun j hj => ?_, ?_, fun B w hB hb => ?_⟩
  · refine ⟨?_, ?_, ?_, ?_, ?_, ?_⟩ <;> simp [World.cell?, World.setCell, Array.getElem?_modify, h]
  · rw [Below.heap_setCell _ _ _ _ hj, Below.heap_setCell _ _ _ _ hj, Below.heap_setCell _ _ _ _ hj, Below.heap_setCell _ _ _ _ hj, Below.heap_setCell _ _ _ _ hj, Below.heap_setCell _ _ _ _ hj]
  · rw [sz_set, sz_set, sz_set, sz_set, sz_set, sz_set]
  · exact below_set (below_set (below_set (below_set (below_set (below_set hb _ _ _ hB) _ _ _ hB) _ _ _ hB) _ _ _ hB) _ _ _ hB) _ _ _ hB

set_option maxRecDepth 20000 in
set_option maxHeartbeats 8000000 in
theorem back_any (A : Nat → Addr) (kd v x sz : Int) (raw : List Int) (rv : Value) (w : World) (hv : IRow w rv raw) (hr : ∀ x, x ∈ raw → -9223372036854775808 ≤ x ∧ x ≤ 9223372036854775807) (hl : raw.length ≤ 9223372036854775807)
    (a0 : -9223372036854775808 ≤ kd) (a1 : kd ≤ 9223372036854775807) (a2 : -9223372036854775808 ≤ v) (a3 : v ≤ 9223372036854775807) (a4 : -9223372036854775808 ≤ x) (a5 : x ≤ 9223372036854775807) (a6 : -9223372036854775808 ≤ sz) (a7 : sz ≤ 9223372036854775807) :
    Calls Tryz.prog 4 #[.int .i64 kd, .int .i64 v, .int .i64 x, rv, .int .i64 sz] w fun e w' => e = .returned (.bool true) ∧ Below w.heap.size w w' := by
  have hk1 := fun w => node_any kd v x w a2 a3 a4 a5 a0 a1
  have hk2 := fun v w hv => kups_any raw v w hv hr hl
  have hk3 := fun w hv => kman_any kd sz v raw rv w hv hr hl a0 a1 a6 a7 a2 a3
  clear a0 a1 a2 a3 a4 a5 a6 a7 hr hl
  go_enter Tryz.func4, Tryz.ntmps4
  go_wp2_with fail
  refine (hk1 _).mono ?_
  rintro e w1 ⟨m, b, rfl, hn, hb1⟩
  have hbl := encN_len m b hn
  have hbn := encN_ne m b hn
  have hk4 := fun w => tenc_ok m b w hn
  have hk5 := fun w => dec_ok A b m w (decN_e m b hn) (by omega)
  have hq1 := C5.new w1 (.int .i64 m.kind) (.string (S m.path)) (.string (S m.value)) (.int .i64 m.left) (.int .i64 m.right) 23
  have hz1 := hb1.size
  have hbA := hb1.alloc hz1 (.cells #[.int .i64 m.kind, .string (S m.path), .string (S m.value), .int .i64 m.left, .int .i64 m.right] 23)
  unfold nodeV at hk4 hk5 ⊢
  clear hk1 hb1
  go_wp2_with fail
  refine (hk4 _).mono ?_
  rintro e w2 ⟨rfl, hb2⟩
  have hq2 := hq1.below hb2 (by simp)
  have hlt2 : w1.heap.size < w2.heap.size := by have := hb2.size; simp at this; omega
  have hb12 := hbA.trans (hb2.mono (by simp; omega))
  have hz2 := hb12.size
  clear hb2 hbA hq1 hk4
  go_wp2_with fail
  refine (hk5 _).mono ?_
  rintro e w3 ⟨rfl, hb3⟩
  have hq3 := (hq2.below hb3 hlt2)
  have hlt3 : w1.heap.size < w3.heap.size := by have := hb3.size; omega
  have hb13 := hb12.trans (hb3.mono hz2)
  have hz3 := hb13.size
  have hq3' := hq3.below ((Below.refl _ w3).alloc (Nat.le_refl _) (.cells #[.int .i64 m.kind, .string (S m.path), .string (S m.value), .int .i64 m.left, .int .i64 m.right] 23)) hlt3
  clear hb3 hb12 hq2 hk5 hq3
  obtain ⟨q0, q1, q2, q3, q4⟩ := hq3'
  have hse : (S b).toList.isEmpty = false := by rw [Lib.toList_data, S_list]; simpa using hbn
  go_wp2_with fail
  have hvx := hv.to (hb13.alloc hz3 (.cells #[.int .i64 m.kind, .string (S m.path), .string (S m.value), .int .i64 m.left, .int .i64 m.right] 23))
  obtain ⟨WX, hWX⟩ : ∃ W, W = w3.alloc (.cells #[.int .i64 m.kind, .string (S m.path), .string (S m.value), .int .i64 m.left, .int .i64 m.right] 23) := ⟨_, rfl⟩
  have hbX : Below w.heap.size w WX := by rw [hWX]; exact hb13.alloc hz3 _
  have hltX : w1.heap.size < WX.heap.size := by rw [hWX]; simp; omega
  rw [← hWX] at hvx q0 q1 q2 q3 q4
  rw [← hWX]
  clear hWX hb13 hlt3 hz3 hse hlt2 hz2
  have hqX : C5 w1.heap.size (.int .i64 m.kind) (.string (S m.path)) (.string (S m.value)) (.int .i64 m.left) (.int .i64 m.right) WX := ⟨q0, q1, q2, q3, q4⟩
  have hneX : ¬ w1.heap.size = WX.heap.size := by omega
  have hneX2 : ¬ WX.heap.size = w1.heap.size := by omega
  have hvd : IRow WX.drew rv raw := hvx
  have hva : ∀ o, IRow (WX.alloc o).drew rv raw := fun o => hvx.to ((Below.refl _ WX).alloc (Nat.le_refl _) o).drew
  go_region_held3 (fun w' => w'.cell? ⟨w1.heap.size, 0, none⟩ = some (.int .i64 m.kind) ∧ w'.cell? ⟨w1.heap.size, 1, none⟩ = some (.string (S m.path)) ∧ w'.cell? ⟨w1.heap.size, 2, none⟩ = some (.string (S m.value)) ∧ w'.cell? ⟨w1.heap.size, 3, none⟩ = some (.int .i64 m.left) ∧ w'.cell? ⟨w1.heap.size, 4, none⟩ = some (.int .i64 m.right)) (go_keep)
    (first
    | (go_at_call 21; refine (hk2 _ WX.drew hvd).mono ?_; rintro e w4 ⟨u, us, rfl, hO4, hus, hB4⟩; obtain ⟨pu, cu, rfl, _⟩ := hO4.urow; have hcc4 := fun o => hB4.cell (p := ⟨w1.heap.size, o, none⟩) hltX)
    | (go_at_call 21; refine (hk2 _ _ (hva _)).mono ?_; rintro e w4 ⟨u, us, rfl, hO4, hus, hB4⟩; obtain ⟨pu, cu, rfl, _⟩ := hO4.urow; have hcc4 := fun o => hB4.cell (p := ⟨w1.heap.size, o, none⟩) (by simp; omega); have hccP := fun o => hB4.cell (p := ⟨WX.heap.size, o, none⟩) (by simp); have hffP := fun o => hB4.frozen (p := ⟨WX.heap.size, o, none⟩) (by simp)))
  all_goals (rename_i hH; clear hH)
  have hb14 : Below w.heap.size w w4 := hbX.drew.trans (hB4.mono hbX.size)
  have hz4 := hb14.size
  have hlt4 : w1.heap.size < w4.heap.size := Nat.lt_of_lt_of_le hltX hB4.size
  have hq4 : C5 w1.heap.size (.int .i64 m.kind) (.string (S m.path)) (.string (S m.value)) (.int .i64 m.left) (.int .i64 m.right) w4 := C5.below (w0 := WX.drew) hqX hB4 hltX
  have hp5 := C6.new w4 (.int .i64 m.kind) (.string (S m.path)) (.string (S m.value)) (.int .i64 m.left) (.int .i64 m.right) (.slice pu us.length cu) 26
  have hu5 := hO4.urow.to ((Below.refl _ w4).alloc (Nat.le_refl _) (.cells #[.int .i64 m.kind, .string (S m.path), .string (S m.value), .int .i64 m.left, .int .i64 m.right, .slice pu us.length cu] 26))
  have hb15 := hb14.alloc hz4 (.cells #[.int .i64 m.kind, .string (S m.path), .string (S m.value), .int .i64 m.left, .int .i64 m.right, .slice pu us.length cu] 26)
  have hq5 := hq4.below ((Below.refl _ w4).alloc (Nat.le_refl _) (.cells #[.int .i64 m.kind, .string (S m.path), .string (S m.value), .int .i64 m.left, .int .i64 m.right, .slice pu us.length cu] 26)) hlt4
  have hlt5 : w1.heap.size < (w4.alloc (.cells #[.int .i64 m.kind, .string (S m.path), .string (S m.value), .int .i64 m.left, .int .i64 m.right, .slice pu us.length cu] 26)).heap.size := by simp; omega
  have hpt5 : w4.heap.size < (w4.alloc (.cells #[.int .i64 m.kind, .string (S m.path), .string (S m.value), .int .i64 m.left, .int .i64 m.right, .slice pu us.length cu] 26)).heap.size := by simp
  have hvw := hv.to (hb15.mono (Nat.le_refl _))
  clear hB4 hcc4 hbX hqX hltX hvx hvd hva hneX hneX2 hq4 hb14 hz4 hlt4 hO4 q0 q1 q2 q3 q4 hv
  generalize w4.alloc (.cells #[.int .i64 m.kind, .string (S m.path), .string (S m.value), .int .i64 m.left, .int .i64 m.right, .slice pu us.length cu] 26) = W5 at *
  generalize w4.heap.size = bP at *
  rotate_left
  have hb14 : Below w.heap.size w w4 := (hbX.alloc hbX.size _).drew.trans (hB4.mono (by simp; have := hbX.size; omega))
  have hz4 := hb14.size
  have hs4 : WX.heap.size < w4.heap.size := by have := hB4.size; simp at this; omega
  have hqa : C5 w1.heap.size (.int .i64 m.kind) (.string (S m.path)) (.string (S m.value)) (.int .i64 m.left) (.int .i64 m.right) (WX.alloc (.cells #[.int .i64 0, .string ⟨#[]⟩, .string ⟨#[]⟩, .int .i64 0, .int .i64 0, .slice none 0 0] 26)) := hqX.below ((Below.refl _ WX).alloc (Nat.le_refl _) _) hltX
  have hq4 : C5 w1.heap.size (.int .i64 m.kind) (.string (S m.path)) (.string (S m.value)) (.int .i64 m.left) (.int .i64 m.right) w4 := C5.below (w0 := (WX.alloc (.cells #[.int .i64 0, .string ⟨#[]⟩, .string ⟨#[]⟩, .int .i64 0, .int .i64 0, .slice none 0 0] 26)).drew) hqa hB4 (by simp; omega)
  have hblk : w4.heap[WX.heap.size]? = some (.cells #[.int .i64 0, .string ⟨#[]⟩, .string ⟨#[]⟩, .int .i64 0, .int .i64 0, .slice none 0 0] 26 (0, 0)) := (hB4.block _ (by simp)).trans (heap_alloc_new WX _)
  obtain ⟨W5, hW5⟩ : ∃ W, W = ((((((w4.setCell ⟨WX.heap.size, 0, none⟩ (.int .i64 m.kind)).setCell ⟨WX.heap.size, 1, none⟩ (.string (S m.path))).setCell ⟨WX.heap.size, 2, none⟩ (.string (S m.value))).setCell ⟨WX.heap.size, 3, none⟩ (.int .i64 m.left)).setCell ⟨WX.heap.size, 4, none⟩ (.int .i64 m.right)).setCell ⟨WX.heap.size, 5, none⟩ (.slice pu us.length cu)) := ⟨_, rfl⟩
  obtain ⟨hp5, hhp, hsz5, hbl5⟩ := store6 w4 W5 WX.heap.size _ _ _ _ _ _ _ _ _ _ _ _ _ hblk hW5
  have hu5 := (hO4.keep fun j hj _ => hhp j (by simp at hj; omega)).urow
  have hb15 := hbl5 w.heap.size w hbX.size hb14
  have hq5 : C5 w1.heap.size (.int .i64 m.kind) (.string (S m.path)) (.string (S m.value)) (.int .i64 m.left) (.int .i64 m.right) W5 := by
    obtain ⟨k0, k1, k2, k3, k4⟩ := hq4
    have he := hhp w1.heap.size hneX
    refine ⟨?_, ?_, ?_, ?_, ?_⟩ <;> rw [World.cell?_of_block (w := w4) he] <;> assumption
  have hlt5 : w1.heap.size < W5.heap.size := by omega
  have hpt5 : WX.heap.size < W5.heap.size := by omega
  have hvw := hv.to (hb15.mono (Nat.le_refl _))
  rw [← hW5]
  clear hB4 hcc4 hccP hffP hbX hqX hltX hvx hvd hva hneX hneX2 hq4 hqa hblk hhp hb14 hz4 hs4 hO4 q0 q1 q2 q3 q4 hv hW5 hsz5 hbl5
  generalize WX.heap.size = bP at *
  rotate_left
  all_goals
    have hk6 := fun w hv => tencP_ok ⟨m, us⟩ (.slice pu us.length cu) (prfB b us) w hv (encP_of m b us hn hus)
    have hpl := prfB_len m b us hn hus
    have hk7 := fun w => tdecP_ok A (prfB b us) ⟨m, us⟩ w (decP_e _ _ (encP_of m b us hn hus)) (by omega)
    have hul := ((okUs_iff us).1 hus).1
    generalize prfB b us = pb at hk6 hk7 hpl
    unfold prfV at hk6
    unfold outP at hk7
    simp only at hk6 hk7
    have hq5' := hq5
    have hp5' := hp5
    obtain ⟨q0, q1, q2, q3, q4⟩ := hq5'
    obtain ⟨r0, r1, r2, r3, r4, r5⟩ := hp5'
    simp only [Exit.then]
    go_wp2_with fail
    refine (hk6 _ hu5).mono ?_
    rintro e w6 ⟨rfl, hb6⟩
    have hp6 := hp5.below hb6 hpt5
    have hq6 := hq5.below hb6 hlt5
    have hu6 := hu5.to hb6
    have hv6 := hvw.to hb6
    have hz6 := hb6.size
    have hb16 := hb15.trans (hb6.mono hb15.size)
    clear hb6 hp5 hq5 hu5 hvw hk6 hb15 q0 q1 q2 q3 q4 r0 r1 r2 r3 r4 r5
    go_wp2_with fail
    refine (hk7 _).mono ?_
    rintro e w7 ⟨g, F, rfl, hg, hblk, hF, hb7⟩
    have hp7 := hp6.below hb7 (by omega)
    have hq7 := hq6.below hb7 (by omega)
    have hu7 := hu6.to hb7
    have hv7 := hv6.to hb7
    have hu7b := hblk.urow hF us.length
    have hz7 := hb7.size
    have hb17 := hb16.trans (hb7.mono hb16.size)
    have hb8 := (Below.refl w7.heap.size w7).alloc (Nat.le_refl _) (.cells #[.int .i64 m.kind, .string (S m.path), .string (S m.value), .int .i64 m.left, .int .i64 m.right, .slice (some ⟨g, 0, none⟩) us.length us.length] 26)
    have hp8 := hp7.below hb8 (by omega)
    have hq8 := hq7.below hb8 (by omega)
    have hu8 := hu7.to hb8
    have hv8 := hv7.to hb8
    have hu8b := hu7b.to hb8
    have hb18 := hb17.trans (hb8.mono hb17.size)
    have ht8 := C6.new w7 (.int .i64 m.kind) (.string (S m.path)) (.string (S m.value)) (.int .i64 m.left) (.int .i64 m.right) (.slice (some ⟨g, 0, none⟩) us.length us.length) 26
    have hz8 : w7.heap.size < (w7.alloc (.cells #[.int .i64 m.kind, .string (S m.path), .string (S m.value), .int .i64 m.left, .int .i64 m.right, .slice (some ⟨g, 0, none⟩) us.length us.length] 26)).heap.size := by simp
    have hk8 := fun w ha hb => sameUps_ok us (.slice pu us.length cu) (.slice (some ⟨g, 0, none⟩) us.length us.length) w ha hb (by omega)
    clear hb7 hp6 hq6 hu6 hv6 hk7 hb16 hblk hF hp7 hq7 hu7 hv7 hu7b hb17
    obtain ⟨q0, q1, q2, q3, q4⟩ := hq8
    obtain ⟨r0, r1, r2, r3, r4, r5⟩ := hp8
    obtain ⟨t0, t1, t2, t3, t4, t5⟩ := ht8
    go_wp2_with fail
    refine (hk8 _ hu8 hu8b).mono ?_
    rintro e w9 ⟨rfl, n9, rfl⟩
    clear hk8 hu8 hu8b
    go_wp2_with fail
    have hv9 := hv8.to (below_drewN (Below.refl _ _) n9)
    have hb19 := below_drewN hb18 n9
    clear hv8 hb18 q0 q1 q2 q3 q4 r0 r1 r2 r3 r4 r5 t0 t1 t2 t3 t4 t5
    refine (hk3 _ hv9).mono ?_
    rintro e w10 ⟨mm, mu, rfl, hI, hokM, hb10⟩
    obtain ⟨bm, hbm, hbml⟩ := encM_of mm hokM
    have hml := okM_len mm hokM
    have hb110 := hb19.trans (hb10.mono hb19.size)
    obtain ⟨pm, cm, rfl, hcm⟩ := hI
    have hI10 : IRow w10 (.slice pm mm.digests.length cm) mm.digests := ⟨pm, cm, rfl, hcm⟩
    have hk10 := fun w hv => tencM_ok mm (.slice pm mm.digests.length cm) bm w hv hbm
    have hk11 := fun w => tdecM_ok bm mm w (decM_e mm bm hbm) (by omega)
    have hk12 := fun w va ha hb => sameInts_ok mm.digests (.slice pm mm.digests.length cm) va w ha hb (by omega)
    clear hb10 hb19 hv9 hk3 hcm hbm hokM
    unfold manV at hk10 hk11 ⊢
    have hbn := (Below.refl w10.heap.size w10).alloc (Nat.le_refl _) (.cells #[.int .i64 mm.width, .int .i64 mm.root, .int .i64 mm.size, .int .i64 mm.total, .slice pm mm.digests.length cm] 49)
    have hI11 := hI10.to hbn
    have hm11 := C5.new w10 (.int .i64 mm.width) (.int .i64 mm.root) (.int .i64 mm.size) (.int .i64 mm.total) (.slice pm mm.digests.length cm) 49
    have hb111 := hb110.trans (hbn.mono hb110.size)
    clear hbn hI10 hb110
    go_wp2_with fail
    refine (hk10 _ hI11).mono ?_
    rintro e w12 ⟨rfl, hb12⟩
    have hm12 := hm11.below hb12 (by simp)
    have hI12 := hI11.to hb12
    have hz12 := hb12.size
    have hb112 := hb111.trans (hb12.mono hb111.size)
    simp at hz12
    clear hb12 hm11 hI11 hb111 hk10
    go_wp2_with fail
    refine (hk11 _).mono ?_
    rintro e w13 ⟨g2, rfl, hg2, hrow, hb13⟩
    have hm13 := hm12.below hb13 (by omega)
    have hI13 := hI12.to hb13
    have hJ13 := hrow.irow mm.digests.length
    have hz13 := hb13.size
    have hb113 := hb112.trans (hb13.mono hb112.size)
    have hbn := (Below.refl w13.heap.size w13).alloc (Nat.le_refl _) (.cells #[.int .i64 mm.width, .int .i64 mm.root, .int .i64 mm.size, .int .i64 mm.total, .slice (some ⟨g2, 0, none⟩) mm.digests.length mm.digests.length] 49)
    have hI14 := hI13.to hbn
    have hJ14 := hJ13.to hbn
    have hm14 := hm13.below hbn (by omega)
    have hn14 := C5.new w13 (.int .i64 mm.width) (.int .i64 mm.root) (.int .i64 mm.size) (.int .i64 mm.total) (.slice (some ⟨g2, 0, none⟩) mm.digests.length mm.digests.length) 49
    have hb114 := hb113.trans (hbn.mono hb113.size)
    clear hb13 hm12 hI12 hb112 hk11 hrow hbn hI13 hJ13 hm13 hb113
    obtain ⟨q0, q1, q2, q3, q4⟩ := hm14
    obtain ⟨r0, r1, r2, r3, r4⟩ := hn14
    go_wp2_with fail
    refine (hk12 _ _ hI14 hJ14).mono ?_
    rintro e w15 ⟨rfl, n15, rfl⟩
    clear hk12 hI14 hJ14
    go_wp2_with fail
    go_ret
    exact ⟨rfl, below_drewN hb114 n15⟩
end Go.Proofs.YtddcbeeldjjmeaaGreatDoor.Tw
