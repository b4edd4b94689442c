/- The document's answer: EncodeProof. -/
import Derived.Test.YtddcbeeldjjmeaaGreatDoorRefR
import Derived.Test.YtddcbeeldjjmeaaGreatDoorPrfNo
import Derived.Deep.CutRange
import Derived.Deep.RegionHeldLaw
import Derived.Deep.RegionHeld3
import Derived.Deep.DrawnRows
namespace Go.Proofs.YtddcbeeldjjmeaaGreatDoor.Tw
open Go.RowKit Go.Proofs.YtddcbeeldjjmeaaGreatDoor.Pu
set_option linter.unusedVariables false
set_option linter.unusedSimpArgs false

set_option maxRecDepth 20000 in
set_option maxHeartbeats 1000000 in
theorem rencP_bot (m : Nd) (v : Value) (w : World) (hn : encN m = none) (hpl : m.path.length ≤ 9223372036854775807) :
    Calls Tryz.prog 12 #[.agg #[.int .i64 m.kind, .string (S m.path), .string (S m.value), .int .i64 m.left, .int .i64 m.right, v]] w fun e w' => e = .returned (.tuple #[.string (S []), .int .i64 3]) ∧ Below w.heap.size w w' := by
  have hk1 := fun w => renc_no m w hn hpl
  unfold nodeV at hk1
  clear hn hpl
  go_enter Tryz.func12, Tryz.ntmps12
  go_wp2_with fail
  refine (hk1 _).mono ?_
  rintro e w1 ⟨rfl, hb1⟩
  have hbx := ((Below.refl _ w).alloc (Nat.le_refl _) _).trans (hb1.mono (by simp))
  clear hb1 hk1
  go_wp2_with fail
  go_ret2
  exact ⟨rfl, hbx⟩

set_option maxRecDepth 20000 in
set_option maxHeartbeats 1000000 in
theorem rencP_many (m : Nd) (b : List UInt8) (p : Option Addr) (n cap : Nat) (w : World) (hn : encN m = some b) (hl : 37 < n) :
    Calls Tryz.prog 12 #[.agg #[.int .i64 m.kind, .string (S m.path), .string (S m.value), .int .i64 m.left, .int .i64 m.right, .slice p n cap]] w fun e w' => e = .returned (.tuple #[.string (S []), .int .i64 3]) ∧ Below w.heap.size w w' := by
  have hk1 := fun w => renc_ok m b w hn
  have hd : decide ((37 : Int) < (n : Int)) = true := by simp; omega
  have hq0 := C6.new w (.int .i64 m.kind) (.string (S m.path)) (.string (S m.value)) (.int .i64 m.left) (.int .i64 m.right) (.slice p n cap) 26
  unfold nodeV at hk1
  clear hn
  go_enter Tryz.func12, Tryz.ntmps12
  go_wp2_with fail
  refine (hk1 _).mono ?_
  rintro e w1 ⟨rfl, hb1⟩
  have hbx := ((Below.refl _ w).alloc (Nat.le_refl _) _).trans (hb1.mono (by simp))
  obtain ⟨q0, q1, q2, q3, q4, q5⟩ := hq0.below hb1 (by simp)
  clear hb1 hk1 hq0
  go_wp2_with fail
  go_ret2
  exact ⟨rfl, hbx⟩

set_option maxRecDepth 20000 in
set_option maxHeartbeats 4000000 in
theorem rencP_run (m : Nd) (us : List Us) (v : Value) (b : List UInt8) (w : World) (hv : URow w v us) (hn : encN m = some b) (hl : us.length ≤ 37) (hpl : ∀ u, u ∈ us → u.path.length ≤ 9223372036854775807) :
    Calls Tryz.prog 12 #[.agg #[.int .i64 m.kind, .string (S m.path), .string (S m.value), .int .i64 m.left, .int .i64 m.right, v]] w fun e w' =>
      ((∀ u, u ∈ us → okU u = true) ∧ e = .returned (.tuple #[.string (S (prfB b us)), .int .i64 0]) ∨ ¬ (∀ u, u ∈ us → okU u = true) ∧ e = .returned (.tuple #[.string (S []), .int .i64 3])) ∧ Below w.heap.size w w' := by
  have hk1 := fun w => renc_ok m b w hn
  have hbl := encN_len m b hn
  have hd : decide ((37 : Int) < (us.length : Int)) = false := by simp; omega
  obtain ⟨p, cap, rfl, hc⟩ := hv
  have hq0 := C6.new w (.int .i64 m.kind) (.string (S m.path)) (.string (S m.value)) (.int .i64 m.left) (.int .i64 m.right) (.slice p us.length cap) 26
  have hks := fun w => rnumber_any b.length w (by omega)
  have hkt := fun w => rnumber_any us.length w (by omega)
  have hl1 : (S (eNum b.length)).size ≤ 10 := by rw [S_size]; exact eNumF_len 10 b.length
  have hl2 : (S b).size ≤ 60 := by rw [S_size]; exact hbl
  have hl3 : (S (eNum us.length)).size ≤ 10 := by rw [S_size]; exact eNumF_len 10 us.length
  have hsb := S_size b
  have c1 := cat_run (S (eNum b.length)) (S b) (by omega) (by omega)
  have c2 := cat_run (S (eNum b.length) ++ S b) (S (eNum us.length)) (by rw [ByteArray.size_append]; omega) (by omega)
  have tok : True := trivial
  unfold nodeV at hk1
  clear hn
  go_enter Tryz.func12, Tryz.ntmps12
  go_wp2_with fail
  refine (hk1 _).mono ?_
  rintro e w1 ⟨rfl, hb1⟩
  have hbx := ((Below.refl _ w).alloc (Nat.le_refl _) _).trans (hb1.mono (by simp))
  have hq1 := hq0.below hb1 (by simp)
  have hz1 : w.heap.size < w1.heap.size := by have := hb1.size; simp at this; omega
  obtain ⟨q0, q1, q2, q3, q4, q5⟩ := id hq1
  clear hb1 hk1 hq0
  go_wp2_with fail
  go_region_held3 (fun w' => w'.cell? ⟨w.heap.size, 5, none⟩ = some (.slice p us.length cap)) (go_keep)
    (first
    | (go_at_call 46; have _t := tok; refine (hks _).mono ?_; rintro e w2 ⟨rfl, hB2⟩; clear tok; have hz2 : w.heap.size < w2.heap.size := (by have := hB2.size; first | (simp at this; omega) | omega); have hc2 := fun o => hB2.cell (p := ⟨w.heap.size, o, none⟩) (by show w.heap.size < _; first | assumption | (simp; done) | (simp; omega)))
    | (go_at_call 46; refine (hkt _).mono ?_; rintro e w3 ⟨rfl, hB3⟩; have hz3 : w.heap.size < w3.heap.size := (by have := hB3.size; first | (simp at this; omega) | omega); have hc3 := fun o => hB3.cell (p := ⟨w.heap.size, o, none⟩) (by show w.heap.size < _; first | assumption | (simp; done) | (simp; omega))))
  have h13 : Below w.heap.size w w3 := by
    have h12 : Below w.heap.size w w2 := by
      first
        | exact hbx.trans (hB2.mono (Nat.le_of_lt hz1))
        | exact hbx.drew.trans (hB2.mono (Nat.le_of_lt hz1))
    first
      | exact h12.trans (hB3.mono (Nat.le_of_lt hz2))
      | exact h12.drew.trans (hB3.mono (Nat.le_of_lt hz2))
  have hq3 : C6 w.heap.size (.int .i64 m.kind) (.string (S m.path)) (.string (S m.value)) (.int .i64 m.left) (.int .i64 m.right) (.slice p us.length cap) w3 := by
    have h2 : C6 w.heap.size (.int .i64 m.kind) (.string (S m.path)) (.string (S m.value)) (.int .i64 m.left) (.int .i64 m.right) (.slice p us.length cap) w2 := by
      first
        | exact C6.below (w0 := w1) hq1 hB2 hz1
        | exact C6.below (w0 := w1.drew) hq1 hB2 hz1
    first
      | exact C6.below (w0 := w2) h2 hB3 hz2
      | exact C6.below (w0 := w2.drew) h2 hB3 hz2
  have e0 : S (eNum b.length) ++ S b ++ S (eNum us.length) = S (eNum b.length ++ b ++ eNum us.length) := by rw [S_append, S_append]
  rw [e0]
  have hL0 : (eNum b.length ++ b ++ eNum us.length).length ≤ 80 := by
    have h1 : (eNum b.length).length ≤ 10 := eNumF_len 10 b.length
    have h2 : (eNum us.length).length ≤ 10 := eNumF_len 10 us.length
    simp only [List.length_append]; omega
  obtain ⟨L0, hL⟩ : ∃ L, L = eNum b.length ++ b ++ eNum us.length := ⟨_, rfl⟩
  have HL : Hid _ := hL
  rw [← hL] at hL0
  rw [← hL]
  clear hL e0 hB2 hB3 hc2 hc3 c1 c2 hks hkt hl1 hl2 hl3 hsb hbl hbx hq1 q0 q1 q2 q3 q4 q5 hz1 hz2 hd
  simp only [Exit.then]
  go_wp2_with fail
  go_loopw [6, 7] (fun r i wr => ∃ j : Nat, j ≤ us.length ∧ i = .int .i64 j ∧ r = .string (S (L0 ++ eUs (us.take j))) ∧ (eUs (us.take j)).length ≤ 500 ∧ Hid (∀ (i : Nat) (hi : i < us.length), i < j → okU us[i] = true) ∧ Below w.heap.size w wr ∧ C6 w.heap.size (.int .i64 m.kind) (.string (S m.path)) (.string (S m.value)) (.int .i64 m.left) (.int .i64 m.right) (.slice p us.length cap) wr ∧ w.heap.size < wr.heap.size) (fun _ i _ => (us.length - intOf i).toNat)
  case atStart => exact ⟨0, by omega, rfl, by rw [List.take_zero, show eUs [] = [] from rfl, List.append_nil], by simp [eUs], fun i _ hi => absurd hi (Nat.not_lt_zero i), h13, hq3, hz3⟩
  case round =>
    obtain ⟨j, hj, rfl, rfl, hlen, hok, hb, hq6, hzr⟩ := hrel
    obtain ⟨q0, q1, q2, q3, q4, q5⟩ := id hq6
    by_cases hjn : j < us.length
    · obtain ⟨a, rfl, hcell0, hcell1, hcell2⟩ := hc j hjn
      have hcw0 : wr.cell? (a.add (j * 3)) = some (.int .i64 us[j].side) := by rw [hb.cell (cell_lt hcell0)]; exact hcell0
      have hcw1 : wr.cell? ⟨(a.add (j * 3)).block, (a.add (j * 3)).off + 1, none⟩ = some (.string (S us[j].path)) := by rw [hb.cell (cell_lt hcell1)]; exact hcell1
      have hcw2 : wr.cell? ⟨(a.add (j * 3)).block, (a.add (j * 3)).off + 2, none⟩ = some (.int .i64 us[j].other) := by rw [hb.cell (cell_lt hcell2)]; exact hcell2
      have hsn := eUs_snoc us j hjn
      have hpu := hpl us[j] (List.getElem_mem hjn)
      have HX : Hid (okU us[j] = true → ∀ (i : Nat) (h : i < us.length), i < j + 1 → okU us[i] = true) := fun hd i hi hij => by
        by_cases e : i = j
        · subst e; exact hd
        · exact hok.out i hi (by omega)
      have HY : Hid (okU us[j] = false → ¬ ∀ u, u ∈ us → okU u = true) := fun hd h => by
        rw [h _ (List.getElem_mem hjn)] at hd; cases hd
      generalize us[j] = u at hcw0 hcw1 hcw2 hpu HX HY hsn
      have hk5 := fun w => risPath_any u.path w hpu
      have hk6 := fun w => ris32_any u.other w
      have hC3 := C3.new wr (.int .i64 u.side) (.string (S u.path)) (.int .i64 u.other) 28
      have hbn := (Below.refl wr.heap.size wr).alloc (Nat.le_refl _) (.cells #[.int .i64 u.side, .string (S u.path), .int .i64 u.other] 28)
      have hb5 := hb.trans (hbn.mono (by omega))
      have hq5 := C6.below hq6 hbn hzr
      have hz5 : wr.heap.size < (wr.alloc (.cells #[.int .i64 u.side, .string (S u.path), .int .i64 u.other] 28)).heap.size := by simp
      have HS : Hid _ := hsn
      clear hsn hcell0 hcell1 hcell2 hc hpl hb hq6 hbn
      obtain ⟨d0, d1, d2⟩ := id hC3
      go_wp2_with fail
      refine (hk5 _).mono ?_
      rintro e w' ⟨rfl, rfl⟩
      go_wp2_with fail
      refine (hk6 _).mono ?_
      rintro e w' ⟨rfl, rfl⟩
      clear hk5 hk6 q0 q1 q2 q3 q4 q5 hcw0 hcw1 hcw2 hpu
      generalize hwn : wr.alloc (.cells #[.int .i64 u.side, .string (S u.path), .int .i64 u.other] 28) = wn at *
      by_cases s0 : u.side < 0
      · have hko : okU u = false := by unfold okU; simp; omega
        have HN := HY.out hko
        clear hko
        go_wp2_with fail
        go_ret2
        exact ⟨Or.inr ⟨HN, rfl⟩, hb5⟩
      by_cases s1 : 1 < u.side
      · have hko : okU u = false := by unfold okU; simp; omega
        have HN := HY.out hko
        clear hko
        go_wp2_with fail
        go_ret2
        exact ⟨Or.inr ⟨HN, rfl⟩, hb5⟩
      cases hp : isPb u.path with
      | false =>
        have hko : okU u = false := by unfold okU; simp [hp]
        have HN := HY.out hko
        clear hko
        go_wp2_with fail
        go_ret2
        exact ⟨Or.inr ⟨HN, rfl⟩, hb5⟩
      | true =>
        cases h3 : is32 u.other with
        | false =>
          have hko : okU u = false := by unfold okU; simp [hp, h3]
          have HN := HY.out hko
          clear hko
          go_wp2_with fail
          go_ret2
          exact ⟨Or.inr ⟨HN, rfl⟩, hb5⟩
        | true =>
          have hko : okU u = true := by unfold okU; simp [hp, h3]; omega
          have HK := HX.out hko
          obtain ⟨k, hk⟩ : ∃ k : Nat, u.side = k := ⟨u.side.toNat, by omega⟩
          have hk2 : k ≤ 1 := by omega
          rw [hk] at d0
          have hP := (isPb_iff _).1 hp
          have hx2 : 0 ≤ u.other ∧ u.other < 4294967296 := by simpa [is32] using h3
          have hcv : ∀ (W : World) (b : Nat), W.heap[b]? = some (.cells #[.int .u8 k] 5 (0, 0)) → (Go.convert 100 9 (.slice (some ⟨b, 0, none⟩) 1 1)).run Tryz.prog W = .ok (.string (S [b8 k])) W := fun W b h =>
            Own.run (base := 0) (l := [b8 k]) (v := .slice (some ⟨b, 0, none⟩) 1 1) ⟨by simp [cellsB], Or.inr ⟨b, 1, _, rfl, Nat.zero_le _, h, Nat.le_refl _, by decide, by simp, by simp [cellsB, b8_toNat k (by omega)]⟩⟩ (by simp)
          have hwu : IntKind.u8.wrap (k : Int) = k := by simp [IntKind.wrap, IntKind.min, IntKind.max, IntKind.signed, IntKind.bits]; omega
          have hnw : ∀ W : World, (W.alloc (.cells #[.int .u8 k] 5)).heap[W.heap.size]? = some (.cells #[.int .u8 k] 5 (0, 0)) := fun W => heap_alloc_new W _
          have hnd : ∀ W : World, (W.alloc (.cells #[.int .u8 k] 5)).drew.heap[W.heap.size]? = some (.cells #[.int .u8 k] 5 (0, 0)) := fun W => heap_alloc_new W _
          have hcA : ∀ W : World, (Go.convert 100 9 (.slice (some ⟨W.heap.size, 0, none⟩) 1 1)).run Tryz.prog (W.alloc (.cells #[.int .u8 k] 5)).drew = .ok (.string (S [b8 k])) (W.alloc (.cells #[.int .u8 k] 5)).drew := fun W => hcv _ _ (hnd W)
          have hcB : ∀ W : World, (Go.convert 100 9 (.slice (some ⟨W.heap.size, 0, none⟩) 1 1)).run Tryz.prog (W.alloc (.cells #[.int .u8 k] 5)) = .ok (.string (S [b8 k])) (W.alloc (.cells #[.int .u8 k] 5)) := fun W => hcv _ _ (hnw W)
          have hk7 := fun w => rpath_any u.path w hP.2
          have hk8 := fun w => rfour_any u.other w hx2.1 hx2.2
          have hpe := ePath_len u.path hP
          have HU : eUs (us.take (j + 1)) = eUs (us.take j) ++ (b8 k :: (ePath u.path ++ e4 u.other.toNat)) := by
            rw [HS.out]; unfold eU; rw [hk]; rfl
          obtain ⟨M, hM⟩ : ∃ M, M = L0 ++ eUs (us.take j) := ⟨_, rfl⟩
          have hMl : M.length ≤ 580 := by rw [hM, List.length_append]; omega
          have hM1 : L0 ++ eUs (us.take (j + 1)) = M ++ [b8 k] ++ ePath u.path ++ e4 u.other.toNat := by rw [HU, hM]; simp
          have hjl : (eUs (us.take (j + 1))).length ≤ 500 := by
            have h1 : ∀ (n : Nat), (∀ (i : Nat) (h : i < us.length), i < n → okU us[i] = true) → n ≤ us.length → (eUs (us.take n)).length ≤ 11 * n := by
              intro n
              induction n with
              | zero => intro _ _; simp [eUs]
              | succ n ih =>
                intro h1 h2
                have h3 := ih (fun i hi hin => h1 i hi (by omega)) (by omega)
                have h4 := eU_len us[n] (h1 n (by omega) (by omega))
                rw [eUs_snoc us n (by omega), List.length_append]
                omega
            have := h1 (j + 1) HK (by omega)
            omega
          rw [← hM]
          have z1 : (S M).size = M.length := S_size M
          have z2 : (S [b8 k]).size = 1 := rfl
          have z3 : (S (ePath u.path)).size = (ePath u.path).length := S_size _
          have z4 : (S (e4 u.other.toNat)).size = 4 := rfl
          have hwz : w.heap.size < wn.heap.size := by omega
          have hqa : C6 w.heap.size (.int .i64 m.kind) (.string (S m.path)) (.string (S m.value)) (.int .i64 m.left) (.int .i64 m.right) (.slice (some a) us.length cap) (wn.alloc (.cells #[.int .u8 k] 5)) := C6.below hq5 ((Below.refl _ wn).alloc (Nat.le_refl _) _) hwz
          have c1 := cat_run (S M) (S [b8 k]) (by omega) (by omega)
          have c2 := cat_run (S M ++ S [b8 k]) (S (ePath u.path)) (by rw [ByteArray.size_append]; omega) (by omega)
          have c3 := cat_run (S M ++ S [b8 k] ++ S (ePath u.path)) (S (e4 u.other.toNat)) (by rw [ByteArray.size_append, ByteArray.size_append]; omega) (by omega)
          have HHK : Hid _ := HK
          have HM1 : Hid _ := hM1
          clear hM HU HX HY HS HL hlen hok hko hp h3 HK hM1 hP hx2 z1 z2 z3 z4 hMl hC3 hL0
          go_wp2_with fail
          go_region_held (fun w' => w'.cell? ⟨wr.heap.size, 0, none⟩ = some (.int .i64 k) ∧ w'.cell? ⟨wr.heap.size, 1, none⟩ = some (.string (S u.path)) ∧ w'.cell? ⟨wr.heap.size, 2, none⟩ = some (.int .i64 u.other)) (go_keep)
            (first
            | (go_at_call 49; refine (hk7 _).mono ?_; rintro e w4 ⟨rfl, hB4⟩; have hz4 : wr.heap.size < w4.heap.size := (by have := hB4.size; first | (simp at this; omega) | omega); (try have g4 : w4.heap[wn.heap.size]? = some (.cells #[.int .u8 k] 5 (0, 0)) := (hB4.block _ (by simp)).trans (by first | exact hnw _ | exact hnd _)); (try have x4 := hcv w4 _ g4); have hc4 := fun o => hB4.cell (p := ⟨wr.heap.size, o, none⟩) (by show wr.heap.size < _; first | assumption | (simp; done) | (simp; omega)))
            | (go_at_call 50; refine (hk8 _).mono ?_; rintro e w5 ⟨rfl, hB5⟩; have hz5b : wr.heap.size < w5.heap.size := (by have := hB5.size; first | (simp at this; omega) | omega); (try have g5 : w5.heap[wn.heap.size]? = some (.cells #[.int .u8 k] 5 (0, 0)) := (hB5.block _ (by have := lt_of_cells g4; first | exact this | (simp; omega))).trans g4); (try have x5 := hcv w5 _ g5); (try have g5b : w5.heap[w4.heap.size]? = some (.cells #[.int .u8 k] 5 (0, 0)) := (hB5.block _ (by simp)).trans (by first | exact hnw _ | exact hnd _)); (try have x5b := hcv w5 _ g5b); have hc5 := fun o => hB5.cell (p := ⟨wr.heap.size, o, none⟩) (by show wr.heap.size < _; first | assumption | (simp; done) | (simp; omega))))
          all_goals
            have hB4' : Below w.heap.size w w4 := by
              first
                | exact hb5.trans (hB4.mono (Nat.le_of_lt hwz))
                | exact hb5.drew.trans (hB4.mono (Nat.le_of_lt hwz))
                | exact (hb5.alloc (Nat.le_of_lt hwz) _).drew.trans (hB4.mono (by simp; omega))
                | exact (hb5.drew.alloc (Nat.le_of_lt hwz) _).trans (hB4.mono (by simp; omega))
            have hq4' : C6 w.heap.size (.int .i64 m.kind) (.string (S m.path)) (.string (S m.value)) (.int .i64 m.left) (.int .i64 m.right) (.slice (some a) us.length cap) w4 := by
              first
                | exact C6.below (w0 := wn) hq5 hB4 hwz
                | exact C6.below (w0 := wn.drew) hq5 hB4 hwz
                | exact C6.below (w0 := (wn.alloc (.cells #[.int .u8 k] 5)).drew) hqa hB4 (by simp; omega)
                | exact C6.below (w0 := (wn.drew.alloc (.cells #[.int .u8 k] 5))) hqa hB4 (by simp; omega)
            have hw4z : w.heap.size < w4.heap.size := cell_lt hq4'.1
            have hqb : C6 w.heap.size (.int .i64 m.kind) (.string (S m.path)) (.string (S m.value)) (.int .i64 m.left) (.int .i64 m.right) (.slice (some a) us.length cap) (w4.alloc (.cells #[.int .u8 k] 5)) := C6.below hq4' ((Below.refl _ w4).alloc (Nat.le_refl _) _) hw4z
            have hB5' : Below w.heap.size w w5 := by
              first
                | exact hB4'.trans (hB5.mono (Nat.le_of_lt hw4z))
                | exact hB4'.drew.trans (hB5.mono (Nat.le_of_lt hw4z))
                | exact (hB4'.alloc (Nat.le_of_lt hw4z) _).trans (hB5.mono (by simp; omega))
                | exact (hB4'.alloc (Nat.le_of_lt hw4z) _).drew.trans (hB5.mono (by simp; omega))
                | exact (hB4'.drew.alloc (Nat.le_of_lt hw4z) _).trans (hB5.mono (by simp; omega))
            have hq5' : C6 w.heap.size (.int .i64 m.kind) (.string (S m.path)) (.string (S m.value)) (.int .i64 m.left) (.int .i64 m.right) (.slice (some a) us.length cap) w5 := by
              first
                | exact C6.below (w0 := w4) hq4' hB5 hw4z
                | exact C6.below (w0 := w4.drew) hq4' hB5 hw4z
                | exact C6.below (w0 := w4.alloc (.cells #[.int .u8 k] 5)) hqb hB5 (by simp; omega)
                | exact C6.below (w0 := (w4.alloc (.cells #[.int .u8 k] 5)).drew) hqb hB5 (by simp; omega)
                | exact C6.below (w0 := (w4.drew.alloc (.cells #[.int .u8 k] 5))) hqb hB5 (by simp; omega)
            have hw5z : w.heap.size < w5.heap.size := cell_lt hq5'.1
            have hqc : C6 w.heap.size (.int .i64 m.kind) (.string (S m.path)) (.string (S m.value)) (.int .i64 m.left) (.int .i64 m.right) (.slice (some a) us.length cap) (w5.alloc (.cells #[.int .u8 k] 5)) := C6.below hq5' ((Below.refl _ w5).alloc (Nat.le_refl _) _) hw5z
            clear hB4 hB5 hc4 hc5
            simp only [Exit.inBlock, Exit.then]
            go_wp2_with fail
            go_roundw
            case rel => exact ⟨j + 1, by omega, by go_num, by rw [HM1.out, S_append, S_append, S_append], hjl, HHK.out, by first | exact hB5' | exact hB5'.drew | exact hB5'.alloc (Nat.le_of_lt hw5z) _ | exact (hB5'.alloc (Nat.le_of_lt hw5z) _).drew, by first | exact hq5' | exact hqc, by first | exact hw5z | (simp; omega)⟩
            case measure => simp [intOf]; omega
    · obtain rfl : j = us.length := by omega
      rw [List.take_length]
      go_wp2
      go_ret2
      refine ⟨Or.inl ⟨fun d hd => ?_, ?_⟩, hb⟩
      · obtain ⟨i, hi, rfl⟩ := List.mem_iff_getElem.1 hd
        exact hok.out i hi hi
      · have := HL.out
        subst this
        unfold prfB
        simp
end Go.Proofs.YtddcbeeldjjmeaaGreatDoor.Tw
