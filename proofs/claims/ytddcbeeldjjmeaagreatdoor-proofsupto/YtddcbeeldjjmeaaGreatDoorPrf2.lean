/- What a proof is written as: the program's. -/
import Derived.Test.YtddcbeeldjjmeaaGreatDoorPrfU
import Derived.Deep.RegionHeld3
namespace Go.Proofs.YtddcbeeldjjmeaaGreatDoor.Tw
open Go.RowKit Go.Proofs.YtddcbeeldjjmeaaGreatDoor.Pu
set_option linter.unusedVariables false
set_option linter.unusedSimpArgs false

/-- What is written of a proof whose bottom is written b. -/
def prfB (b : List UInt8) (us : List Us) : List UInt8 := eNum b.length ++ (b ++ (eNum us.length ++ eUs us))

set_option maxRecDepth 20000 in
set_option maxHeartbeats 30000000 in
theorem wproof_ok (p : Pf) (v : Value) (b : List UInt8) (w : World) (hv : URow w v p.ups) (hn : encN p.bottom = some b) (h : okUs p.ups = true) :
    Calls Tryz.prog 75 #[prfV p v] w fun e w' => e = .returned (.string (S (prfB b p.ups))) ∧ Below w.heap.size w w' := by
  obtain ⟨m, us⟩ := p
  simp only at hv hn h
  obtain ⟨hl, hu⟩ := (okUs_iff us).1 h
  have hbl := encN_len m b hn
  have hk1 := fun w => put_ok m b w hn
  have hel : (eNum b.length).length ≤ 10 := eNumF_len 10 b.length
  have hlt2 : (eNum us.length).length ≤ 10 := eNumF_len 10 us.length
  have hlb : (eNum b.length ++ b).length ≤ 70 := by rw [List.length_append]; omega
  obtain ⟨p, cap, rfl, hc⟩ := hv
  have hq0 := C6.new w (.int .i64 m.kind) (.string (S m.path)) (.string (S m.value)) (.int .i64 m.left) (.int .i64 m.right) (.slice p us.length cap) 26
  have hb0 := (Below.refl w.heap.size w).alloc (Nat.le_refl _) (.cells #[.int .i64 m.kind, .string (S m.path), .string (S m.value), .int .i64 m.left, .int .i64 m.right, .slice p us.length cap] 26)
  have hO0 : ∀ W : World, Own (w.heap.size + 1) W (.slice none 0 0) [] := fun W => Own.none _ W
  clear h hn
  unfold prfV
  unfold nodeV at hk1
  simp only
  go_enter Tryz.func75, Tryz.ntmps75
  go_wp2_with fail
  go_region_held3 (fun w' => w'.cell? ⟨w.heap.size, 0, none⟩ = some (.int .i64 m.kind) ∧ w'.cell? ⟨w.heap.size, 1, none⟩ = some (.string (S m.path)) ∧ w'.cell? ⟨w.heap.size, 2, none⟩ = some (.string (S m.value)) ∧ w'.cell? ⟨w.heap.size, 3, none⟩ = some (.int .i64 m.left) ∧ w'.cell? ⟨w.heap.size, 4, none⟩ = some (.int .i64 m.right) ∧ w'.cell? ⟨w.heap.size, 5, none⟩ = some (.slice p us.length cap)) (go_keep)
    (first
    | (go_at_call 106; refine (hk1 _).mono ?_; rintro e w2 ⟨rfl, hB2⟩; have hz2 : w.heap.size < w2.heap.size := (by have := hB2.size; simp at this; omega); have hcc2 := fun o => hB2.cell (p := ⟨w.heap.size, o, none⟩) (by simp))
    | (go_at_call 125; refine (addText_any (w.heap.size + 1) _ [] b _ (by omega) (by simp) (hO0 _) (by omega)).mono ?_; rintro e w3 ⟨v3, rfl, hO3, hB3⟩; have hz3 : w2.heap.size ≤ w3.heap.size := hB3.size; have hcc3 := fun o => hB3.cell (p := ⟨w.heap.size, o, none⟩) (by show w.heap.size < w.heap.size + 1; omega))
    | (go_at_call 124; refine (addNumber_any (w.heap.size + 1) _ (eNum b.length ++ b) us.length _ (by omega) (by omega) hO3 (by omega)).mono ?_; rintro e w4 ⟨v4, rfl, hO4, hB4⟩; have hz4 : w3.heap.size ≤ w4.heap.size := hB4.size; have hcc4 := fun o => hB4.cell (p := ⟨w.heap.size, o, none⟩) (by show w.heap.size < w.heap.size + 1; omega)))
  have h12 : Below w.heap.size w w2 := hb0.drew.trans (hB2.mono (by simp))
  have h13 : Below w.heap.size w w3 := h12.trans (hB3.mono (by omega))
  have h14 : Below w.heap.size w w4 := h13.trans (hB4.mono (by omega))
  have hc6 : C6 w.heap.size (.int .i64 m.kind) (.string (S m.path)) (.string (S m.value)) (.int .i64 m.left) (.int .i64 m.right) (.slice p us.length cap) w4 := by assumption
  have hs1 : w.heap.size + 1 ≤ w4.heap.size := by omega
  clear hB2 hB3 hB4 hcc2 hcc3 hcc4 h12 h13 hb0 hO3 hk1
  obtain ⟨q0, q1, q2, q3, q4, q5⟩ := hc6
  have hl6 : (eNum b.length ++ b ++ eNum us.length).length ≤ 71 := by rw [List.length_append, eNum_one us.length (by omega)]; omega
  simp only [Exit.then]
  go_wp2_with fail
  go_loopw [3, 5, 17] (fun o _ i wr => ∃ j : Nat, j ≤ us.length ∧ i = .int .i64 j ∧ Own (w.heap.size + 1) wr o (eNum b.length ++ b ++ eNum us.length ++ eUs (us.take j)) ∧ C6 w.heap.size (.int .i64 m.kind) (.string (S m.path)) (.string (S m.value)) (.int .i64 m.left) (.int .i64 m.right) (.slice p us.length cap) wr ∧ Below w.heap.size w wr ∧ w.heap.size + 1 ≤ wr.heap.size) (fun _ _ i _ => (us.length - intOf i).toNat)
  case atStart =>
    refine ⟨0, by omega, rfl, ?_, ⟨q0, q1, q2, q3, q4, q5⟩, h14, hs1⟩
    rw [List.take_zero, show eUs [] = [] from rfl, List.append_nil]
    exact hO4
  case round =>
    obtain ⟨j, hj, rfl, hOw, hc6, hb, hzr⟩ := hrel
    have hlen : (eNum b.length ++ b ++ eNum us.length ++ eUs (us.take j)).length ≤ 478 := by
      have := eUs_len us hu j
      rw [List.length_append]; omega
    by_cases hjn : j < us.length
    · obtain ⟨L, hL⟩ : ∃ L, L = eNum b.length ++ b ++ eNum us.length ++ eUs (us.take j) := ⟨_, rfl⟩
      rw [← hL] at hOw hlen
      have HL : Hid _ := hL
      clear hL
      obtain ⟨a, rfl, hcell0, hcell1, hcell2⟩ := hc j hjn
      have hcw0 : wr.cell? (a.add (j * 3)) = some (.int .i64 us[j].side) := by rw [hb.cell (cell_lt hcell0)]; exact hcell0
      have hcw1 : wr.cell? ⟨(a.add (j * 3)).block, (a.add (j * 3)).off + 1, none⟩ = some (.string (S us[j].path)) := by rw [hb.cell (cell_lt hcell1)]; exact hcell1
      have hcw2 : wr.cell? ⟨(a.add (j * 3)).block, (a.add (j * 3)).off + 2, none⟩ = some (.int .i64 us[j].other) := by rw [hb.cell (cell_lt hcell2)]; exact hcell2
      have hc6' := hc6
      obtain ⟨q0, q1, q2, q3, q4, q5⟩ := hc6'
      have huj := hu us[j] (List.getElem_mem hjn)
      have hsn := eUs_snoc us j hjn
      generalize us[j] = u at hcw0 hcw1 hcw2 huj hsn
      obtain ⟨us1, us2, us3⟩ := (okU_iff u).1 huj
      have hP := (isPb_iff _).1 us2
      have hx2 : 0 ≤ u.other ∧ u.other < 4294967296 := by simpa [is32] using us3
      have hC3 := C3.new wr (.int .i64 u.side) (.string (S u.path)) (.int .i64 u.other) 28
      have hbn := (Below.refl wr.heap.size wr).alloc (Nat.le_refl _) (.cells #[.int .i64 u.side, .string (S u.path), .int .i64 u.other] 28)
      have hblk5 : ∀ o, ((wr.alloc (.cells #[.int .i64 u.side, .string (S u.path), .int .i64 u.other] 28)).alloc o).heap[wr.heap.size]? = some (.cells #[.int .i64 u.side, .string (S u.path), .int .i64 u.other] 28 (0, 0)) := fun o => (Below.heap_alloc _ _ _ (by simp)).trans (heap_alloc_new wr _)
      have HU : Hid (eUs (us.take (j + 1)) = eUs (us.take j) ++ eU u) := hsn
      have hO5 : Own (w.heap.size + 1) (wr.alloc (.cells #[.int .i64 u.side, .string (S u.path), .int .i64 u.other] 28)) _ _ := hOw.keep fun k hk => hbn.block k hk
      have hc65 := C6.below hc6 hbn (by omega)
      have hb55 := hb.trans (hbn.mono (by omega))
      clear hcell0 hcell1 hcell2 hsn us3 us2 huj hc hb hOw hc6
      obtain ⟨d0, d1, d2⟩ := hC3
      obtain ⟨i0, hi, hiz0, hiz1, hiz2⟩ := info_parts u8info
      have hown' := hO5
      unfold Own at hown'
      go_wp2_with (at_builtin; refine wpList_append_own _ rfl (.tmp 21) (.tmp 25) 100 rfl (w.heap.size + 1) 5 i0 (.int .u8 0) 1 1 Tryz.underlying100 hi hiz0 hiz1 hiz2 rfl (by decide) _ _ _ rfl (hown'.alloc _) ⟨wr.heap.size + 1, 0, none⟩ 1 1 _ rfl rfl (by have h := cell_one_new (wr.alloc (.cells #[.int .i64 u.side, .string (S u.path), .int .i64 u.other] 28)) (.int .u8 u.side) 5; simp only [World.size_alloc] at h; exact h) ?c2 ?c3 ?c4 ?c5 ?_)
      case c2 => intro y hy; simp at hy; subst hy; rfl
      case c3 => unfold maxLen; omega
      case c4 => omega
      case c5 => simp; omega
      intro v6 w6 hown6 hgrow _
      have hx8 : u.side = ((b8 u.side.toNat).toNat : Int) := by rw [b8_toNat _ (by omega)]; omega
      have hO6 := Own.snoc (b8 u.side.toNat) hx8 hown6
      have hB6 : Below (w.heap.size + 1) (wr.alloc (.cells #[.int .i64 u.side, .string (S u.path), .int .i64 u.other] 28)) w6 := ((Below.refl _ _).alloc (by simp; omega) _).grown hgrow (by simp; omega) (Own.block hO5)
      have hz6 : wr.heap.size + 1 < w6.heap.size := by have := hgrow.size; simp at this; omega
      have hb66 := hb55.trans (hB6.mono (by omega))
      have hc66 := C6.below hc65 hB6 (by omega)
      have hblk6 : w6.heap[wr.heap.size]? = some (.cells #[.int .i64 u.side, .string (S u.path), .int .i64 u.other] 28 (0, 0)) :=
        Foreign.grown (Own.allocd hO5 _) hgrow _ _ _ _ (by decide) (hblk5 _)
      have e0 : w6.cell? ⟨wr.heap.size, 0, none⟩ = some (.int .i64 u.side) := by simp [World.cell?, hblk6]
      have e1 : w6.cell? ⟨wr.heap.size, 1, none⟩ = some (.string (S u.path)) := by simp [World.cell?, hblk6]
      have e2 : w6.cell? ⟨wr.heap.size, 2, none⟩ = some (.int .i64 u.other) := by simp [World.cell?, hblk6]
      have HK6 : Hid _ := hblk6
      have hl66 : (L ++ [b8 u.side.toNat]).length ≤ 500 := by rw [List.length_append]; simp; omega
      have hl67 : (L ++ [b8 u.side.toNat] ++ ePath u.path).length ≤ 1000 := by rw [List.length_append]; have := ePath_len u.path hP; omega
      have hs6 : w.heap.size + 1 ≤ w6.heap.size := by omega
      clear hown6 hgrow hown' hO5 hB6 hb55 hc65 d0 d1 d2 hx8 hblk5 hblk6 q0 q1 q2 q3 q4 q5 hbn
      go_wp2_with fail
      go_region_held3 (fun w' => w'.cell? ⟨wr.heap.size, 1, none⟩ = some (.string (S u.path)) ∧ w'.cell? ⟨wr.heap.size, 2, none⟩ = some (.int .i64 u.other)) (go_keep)
        (first
        | (go_at_call 127; refine (addPath_f (w.heap.size + 1) _ (L ++ [b8 u.side.toNat]) u.path _ hP (by omega) (by first | exact hO6 | exact hO6.drew) (by first | exact hs6 | (simp; exact hs6))).mono ?_; rintro e w7 ⟨v7, rfl, hO7, hB7, hF7⟩; have hu71 : w7.cell? ⟨wr.heap.size, 1, none⟩ = some (.string (S u.path)) := (by simp [World.cell?, hF7 _ _ _ _ (by decide) HK6.out]); have hu7 : w7.cell? ⟨wr.heap.size, 2, none⟩ = some (.int .i64 u.other) := (by simp [World.cell?, hF7 _ _ _ _ (by decide) HK6.out]); have hblk7 : Hid (w7.heap[wr.heap.size]? = some (.cells #[.int .i64 u.side, .string (S u.path), .int .i64 u.other] 28 (0, 0))) := hF7 _ _ _ _ (by decide) HK6.out; have hs7 : w.heap.size + 1 ≤ w7.heap.size := Nat.le_trans hs6 hB7.size)
        | (go_at_call 126; refine (addFour_f (w.heap.size + 1) _ (L ++ [b8 u.side.toNat] ++ ePath u.path) u.other _ hx2.1 hx2.2 (by omega) (by first | exact hO7 | exact hO7.drew) (by first | exact hs7 | (simp; exact hs7))).mono ?_; rintro e w8 ⟨v8, rfl, hO8, hB8, hF8⟩; have hu81 : w8.cell? ⟨wr.heap.size, 1, none⟩ = some (.string (S u.path)) := (by simp [World.cell?, hF8 _ _ _ _ (by decide) hblk7.out]); have hu8 : w8.cell? ⟨wr.heap.size, 2, none⟩ = some (.int .i64 u.other) := (by simp [World.cell?, hF8 _ _ _ _ (by decide) hblk7.out]); have hs8 : w.heap.size + 1 ≤ w8.heap.size := Nat.le_trans hs7 hB8.size))
      have h67 : Below w.heap.size w w7 := hb66.drew.trans (hB7.mono (by omega))
      have h68 : Below w.heap.size w w8 := h67.trans (hB8.mono (by omega))
      have hc68 : C6 w.heap.size (.int .i64 m.kind) (.string (S m.path)) (.string (S m.value)) (.int .i64 m.left) (.int .i64 m.right) (.slice (some a) us.length cap) w8 := by
        have h7 : C6 w.heap.size (.int .i64 m.kind) (.string (S m.path)) (.string (S m.value)) (.int .i64 m.left) (.int .i64 m.right) (.slice (some a) us.length cap) w7 := C6.below (w0 := w6.drew) hc66 hB7 (by omega)
        exact C6.below (w0 := w7) h7 hB8 (by omega)
      have hOf : Own (w.heap.size + 1) w8 v8 (eNum b.length ++ b ++ eNum us.length ++ eUs (us.take (j + 1))) := by
        rw [HU.out, ← List.append_assoc, ← HL.out]
        have e : L ++ eU u = L ++ [b8 u.side.toNat] ++ ePath u.path ++ e4 u.other.toNat := by unfold eU; simp
        rw [e]
        exact hO8
      clear hO6 hO7 hO8 hB7 hB8 hF7 hF8 hu7 hu71 hu8 hu81 h67 hb66 hc66
      try simp only [Exit.inBlock, Exit.then]
      go_wp2_with fail
      go_roundw
      case rel => exact ⟨j + 1, by omega, by go_num, hOf, hc68, h68, hs8⟩
      case measure => simp [intOf]; omega
    · obtain rfl : j = us.length := by omega
      rw [List.take_length] at hOw
      have ht1 := hOw.run (by
        intro e
        have := congrArg List.length e
        rw [List.length_append, List.length_append, eNum_one us.length (by omega)] at this
        simp at this)
      go_wp2
      go_ret
      refine ⟨?_, hb⟩
      rfl
end Go.Proofs.YtddcbeeldjjmeaaGreatDoor.Tw
