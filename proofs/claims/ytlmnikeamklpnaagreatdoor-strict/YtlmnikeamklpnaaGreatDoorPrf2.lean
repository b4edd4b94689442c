/- EncodeProof: the program's. -/
import Derived.Test.YtlmnikeamklpnaaGreatDoorPrf
import Derived.Test.YtlmnikeamklpnaaGreatDoorEncT
import Derived.Test.YtlmnikeamklpnaaGreatDoorEncK
namespace Go.Proofs.YtlmnikeamklpnaaGreatDoor.Tw
open Go.RowKit Go.Proofs.YtlmnikeamklpnaaGreatDoor.Pu
set_option linter.unusedVariables false
set_option linter.unusedSimpArgs false

/-- A row of steps in memory, as a slice: three cells each. -/
def URow (w : World) (v : Value) (us : List Us) : Prop :=
  ∃ p cap, v = .slice p us.length cap ∧ ∀ (i : Nat) (h : i < us.length), ∃ a, p = some a ∧ w.cell? (a.add (i * 3)) = some (.int .i64 us[i].side) ∧ w.cell? ⟨(a.add (i * 3)).block, (a.add (i * 3)).off + 1, none⟩ = some (.string (S us[i].path)) ∧ w.cell? ⟨(a.add (i * 3)).block, (a.add (i * 3)).off + 2, none⟩ = some (.int .i64 us[i].other)
theorem URow.to {w w' : World} {v : Value} {us : List Us} (h : URow w v us) (k : Below w.heap.size w w') : URow w' v us := by
  obtain ⟨p, cap, rfl, hc⟩ := h
  refine ⟨p, cap, rfl, fun i hi => ?_⟩
  obtain ⟨a, ha, h0, h1, h2⟩ := hc i hi
  exact ⟨a, ha, by rw [k.cell (cell_lt h0)]; exact h0, by rw [k.cell (cell_lt h1)]; exact h1, by rw [k.cell (cell_lt h2)]; exact h2⟩
/-- A proof as the program's value. -/
def prfV (p : Pf) (v : Value) : Value := .agg #[.int .i64 p.bottom.kind, .string (S p.bottom.path), .string (S p.bottom.value), .int .i64 p.bottom.left, .int .i64 p.bottom.right, v]
/-- Six cells of a block. -/
def C6 (b : Nat) (c0 c1 c2 c3 c4 c5 : Value) (w : World) : Prop :=
  w.cell? ⟨b, 0, none⟩ = some c0 ∧ w.cell? ⟨b, 1, none⟩ = some c1 ∧ w.cell? ⟨b, 2, none⟩ = some c2 ∧ w.cell? ⟨b, 3, none⟩ = some c3 ∧ w.cell? ⟨b, 4, none⟩ = some c4 ∧ w.cell? ⟨b, 5, none⟩ = some c5
theorem C6.below {B : Nat} {w0 w1 : World} {b : Nat} {c0 c1 c2 c3 c4 c5 : Value} (h5 : C6 b c0 c1 c2 c3 c4 c5 w0) (h : Below B w0 w1) (hb : b < B) : C6 b c0 c1 c2 c3 c4 c5 w1 := by
  obtain ⟨k0, k1, k2, k3, k4, k5⟩ := h5
  exact ⟨(h.cell hb).trans k0, (h.cell hb).trans k1, (h.cell hb).trans k2, (h.cell hb).trans k3, (h.cell hb).trans k4, (h.cell hb).trans k5⟩
theorem C6.new (w : World) (c0 c1 c2 c3 c4 c5 : Value) (t : TypeId) : C6 w.heap.size c0 c1 c2 c3 c4 c5 (w.alloc (.cells #[c0, c1, c2, c3, c4, c5] t)) :=
  ⟨by simp, by simp, by simp, by simp, by simp, by simp⟩

theorem Own.none (base : Nat) (w : World) : Own base w (.slice none 0 0) [] := ⟨by simp [cellsB], Or.inl ⟨rfl, rfl⟩⟩
theorem eNum_one (n : Nat) (h : n < 128) : (eNum n).length = 1 := by
  unfold eNum
  rw [eNumF_lt 9 n h]
  rfl
theorem eU_len (u : Us) (h : okU u = true) : (eU u).length ≤ 11 := by
  have h37 := ((isPb_iff _).1 ((okU_iff u).1 h).2.1).2
  unfold eU ePath
  simp only [List.length_cons, List.length_append, e4, List.length_nil]
  rw [eNum_one _ (by omega), pack_length]
  omega
theorem eUs_len (us : List Us) (h : ∀ u, u ∈ us → okU u = true) (j : Nat) : (eUs (us.take j)).length ≤ 11 * us.length := by
  have key : ∀ l : List Us, (∀ u, u ∈ l → okU u = true) → (eUs l).length ≤ 11 * l.length := by
    intro l
    induction l with
    | nil => intro _; simp [eUs]
    | cons u l ih =>
      intro hl
      rw [eUs_cons, List.length_append]
      have a := eU_len u (hl u (List.mem_cons_self ..))
      have b := ih fun x hx => hl x (List.mem_cons_of_mem _ hx)
      simp only [List.length_cons]
      omega
  have := key (us.take j) fun u hu => h u (List.mem_of_mem_take hu)
  rw [List.length_take] at this
  have : 11 * min j us.length ≤ 11 * us.length := Nat.mul_le_mul_left _ (Nat.min_le_right _ _)
  omega
theorem eUs_snoc (us : List Us) (j : Nat) (h : j < us.length) : eUs (us.take (j + 1)) = eUs (us.take j) ++ eU us[j] := by
  have e : us.take (j + 1) = us.take j ++ [us[j]] := by rw [List.take_add_one, List.getElem?_eq_getElem h]; rfl
  rw [e]
  simp only [eUs, List.map_append, List.flatten_append, List.map_cons, List.map_nil, List.flatten_cons, List.flatten_nil, List.append_nil]

theorem Own.lt {base : Nat} {w : World} {v : Value} {l : List UInt8} (h : Own base w v l) : ∀ k, v.ownBlock = some k → k < w.heap.size := by
  intro k hk
  obtain ⟨_, ⟨rfl, _⟩ | ⟨g, cap, cur, rfl, hg, hb, _⟩⟩ := h
  · simp [Value.ownBlock] at hk
  · simp [Value.ownBlock] at hk
    subst hk
    by_cases hl : g < w.heap.size
    · exact hl
    · rw [Array.getElem?_eq_none (by omega)] at hb; cases hb
set_option maxRecDepth 20000 in
set_option maxHeartbeats 30000000 in
theorem wencP_ok (p : Pf) (v : Value) (b : List UInt8) (w : World) (hv : URow w v p.ups) (hn : encN p.bottom = some b) (h : okUs p.ups = true) :
    Calls Tryz.prog 22 #[prfV p v] w fun e w' => e = .returned (.tuple #[.string (S (eNum b.length ++ (b ++ (eNum p.ups.length ++ eUs p.ups)))), .nilIface]) ∧ Below w.heap.size w w' := by
  obtain ⟨m, us⟩ := p
  simp only at hv hn h
  obtain ⟨hl, hu⟩ := (okUs_iff us).1 h
  have hbl := encN_len m b hn
  have hnn := neq_nil
  have hk1 := fun w => wenc_ok m b w hn
  have hk2 := fun w => steps_bound (us.length : Int) true w (by simp; omega)
  have hk3 := fun w => addText_any w.heap.size (.slice none 0 0) [] b w (by omega) (by simp) (Own.none _ _) (Nat.le_refl _)
  simp only [List.nil_append] at hk3
  have hel : (eNum b.length).length ≤ 10 := eNumF_len 10 b.length
  obtain ⟨p, cap, rfl, hc⟩ := hv
  have hq0 := C6.new w (.int .i64 m.kind) (.string (S m.path)) (.string (S m.value)) (.int .i64 m.left) (.int .i64 m.right) (.slice p us.length cap) 26
  have hb0 := (Below.refl w.heap.size w).alloc (Nat.le_refl _) (.cells #[.int .i64 m.kind, .string (S m.path), .string (S m.value), .int .i64 m.left, .int .i64 m.right, .slice p us.length cap] 26)
  clear h hn
  unfold prfV
  unfold nodeV at hk1
  simp only
  go_enter Tryz.func22, Tryz.ntmps22
  go_wp2_with fail
  refine (hk1 _).mono ?_
  rintro e w1 ⟨rfl, hb1⟩
  have hq1 := hq0.below hb1 (by simp)
  have hbx := hb0.trans (hb1.mono (by simp))
  have hlt : w.heap.size < w1.heap.size := by have := hb1.size; simp at this; omega
  clear hb1 hb0 hq0 hk1
  have hq1' := hq1
  obtain ⟨q0, q1, q2, q3, q4, q5⟩ := hq1'
  go_wp2_with fail
  refine (hk2 _).mono ?_
  rintro e w' ⟨rfl, rfl⟩
  go_wp2_with fail
  have hO0 : ∀ W : World, Own w'.heap.size W (.slice none 0 0) [] := fun W => Own.none _ W
  have hlt2 : (eNum us.length).length ≤ 10 := eNumF_len 10 us.length
  have hlb : (eNum b.length ++ b).length ≤ 70 := by rw [List.length_append]; omega
  clear hk2 hk3
  go_region_with (first
    | (go_at_call 48; refine (addText_any w'.heap.size _ [] b _ (by omega) (by simp) (hO0 _) (by first | exact Nat.le_refl _ | (simp; done))).mono ?_; rintro e w3 ⟨v3, rfl, hO3, hB3⟩; have hcc3 := fun o => hB3.cell (p := ⟨w.heap.size, o, none⟩) hlt)
    | (go_at_call 47; refine (addNumber_any w'.heap.size _ (eNum b.length ++ b) us.length _ (by omega) (by omega) (by first | exact hO3 | exact hO3.drew) (by have := hB3.size; simp at this ⊢; omega)).mono ?_; rintro e w4 ⟨v4, rfl, hO4, hB4⟩; have hcc4 := fun o => hB4.cell (p := ⟨w.heap.size, o, none⟩) hlt))
  all_goals
    have h13 : Below w.heap.size w w3 := by first | exact hbx.trans (hB3.mono (by omega)) | exact hbx.drew.trans (hB3.mono (by omega))
    have h14 : Below w.heap.size w w4 := by first | exact h13.trans (hB4.mono (by omega)) | exact h13.drew.trans (hB4.mono (by omega))
    have hz3 : w'.heap.size ≤ w3.heap.size := hB3.size
    have hz4 : w'.heap.size ≤ w4.heap.size := Nat.le_trans hz3 hB4.size
    have hc6 : C6 w.heap.size (.int .i64 m.kind) (.string (S m.path)) (.string (S m.value)) (.int .i64 m.left) (.int .i64 m.right) (.slice p us.length cap) w4 := by
      have h3 : C6 w.heap.size (.int .i64 m.kind) (.string (S m.path)) (.string (S m.value)) (.int .i64 m.left) (.int .i64 m.right) (.slice p us.length cap) w3 := by
        first
          | exact C6.below (w0 := w') hq1 hB3 hlt
          | exact C6.below (w0 := w'.drew) hq1 hB3 hlt
      first
        | exact C6.below (w0 := w3) h3 hB4 hlt
        | exact C6.below (w0 := w3.drew) h3 hB4 hlt
    clear hO3 hB3 hB4 hcc3 hcc4 h13 hq1 q0 q1 q2 q3 q4 q5 hbx
    obtain ⟨q0, q1, q2, q3, q4, q5⟩ := hc6
    have hl6 : (eNum b.length ++ b ++ eNum us.length).length ≤ 71 := by rw [List.length_append, eNum_one us.length (by omega)]; omega
    simp only [Exit.then]
    go_wp2_with fail
    go_loopw [6, 7, 8, 9, 36] (fun o _ _ _ i wr => ∃ j : Nat, j ≤ us.length ∧ i = .int .i64 j ∧ Own w'.heap.size wr o (eNum b.length ++ b ++ eNum us.length ++ eUs (us.take j)) ∧ C6 w.heap.size (.int .i64 m.kind) (.string (S m.path)) (.string (S m.value)) (.int .i64 m.left) (.int .i64 m.right) (.slice p us.length cap) wr ∧ Below w.heap.size w wr ∧ w'.heap.size ≤ wr.heap.size) (fun _ _ _ _ i _ => (us.length - intOf i).toNat)
    case atStart =>
      refine ⟨0, by omega, rfl, ?_, ⟨q0, q1, q2, q3, q4, q5⟩, by first | exact h14 | exact h14.drew, hz4⟩
      rw [List.take_zero, show eUs [] = [] from rfl, List.append_nil]
      first | exact hO4 | exact hO4.drew
    case round =>
      obtain ⟨j, hj, rfl, hOw, hc6, hb, hzr⟩ := hrel
      have hlen : (eNum b.length ++ b ++ eNum us.length ++ eUs (us.take j)).length ≤ 478 := by
        have := eUs_len us hu j
        rw [List.length_append]; omega
      by_cases hjn : j < us.length
      · obtain ⟨L, hL⟩ : ∃ L, L = eNum b.length ++ b ++ eNum us.length ++ eUs (us.take j) := ⟨_, rfl⟩
        rw [← hL] at hOw hlen
        have HL : Hid _ := hL
        clear hL
        obtain ⟨a, rfl, hcell0, hcell1, hcell2⟩ := hc j hjn
        have hcw0 : wr.cell? (a.add (j * 3)) = some (.int .i64 us[j].side) := by rw [hb.cell (cell_lt hcell0)]; exact hcell0
        have hcw1 : wr.cell? ⟨(a.add (j * 3)).block, (a.add (j * 3)).off + 1, none⟩ = some (.string (S us[j].path)) := by rw [hb.cell (cell_lt hcell1)]; exact hcell1
        have hcw2 : wr.cell? ⟨(a.add (j * 3)).block, (a.add (j * 3)).off + 2, none⟩ = some (.int .i64 us[j].other) := by rw [hb.cell (cell_lt hcell2)]; exact hcell2
        have hc6' := hc6
        obtain ⟨q0, q1, q2, q3, q4, q5⟩ := hc6'
        have huj := hu us[j] (List.getElem_mem hjn)
        have hsn := eUs_snoc us j hjn
        generalize us[j] = u at hcw0 hcw1 hcw2 huj hsn
        obtain ⟨us1, us2, us3⟩ := (okU_iff u).1 huj
        have hP := (isPb_iff _).1 us2
        have hk5 := fun w => checkUp_ok u w (by have := hP.2; omega) huj
        have hx2 : 0 ≤ u.other ∧ u.other < 4294967296 := by simpa [is32] using us3
        have hC3 := C3.new wr (.int .i64 u.side) (.string (S u.path)) (.int .i64 u.other) 28
        have hbn := (Below.refl wr.heap.size wr).alloc (Nat.le_refl _) (.cells #[.int .i64 u.side, .string (S u.path), .int .i64 u.other] 28)
        have HU : Hid (eUs (us.take (j + 1)) = eUs (us.take j) ++ eU u) := hsn
        unfold upV at hk5
        clear hcell0 hcell1 hcell2 hsn us3 us2 huj hc
        go_wp2_with fail
        refine (hk5 _).mono ?_
        rintro e w5 ⟨rfl, hb5⟩
        have hC3' := hC3.below hb5 (by simp)
        have hblk5 : w5.heap[wr.heap.size]? = some (.cells #[.int .i64 u.side, .string (S u.path), .int .i64 u.other] 28 (0, 0)) := (hb5.block wr.heap.size (by simp)).trans (heap_alloc_new wr _)
        have hbr := hbn.trans (hb5.mono (by simp))
        have hz5 : wr.heap.size < w5.heap.size := by have := hb5.size; simp at this; omega
        have hO5 : Own w'.heap.size w5 _ _ := hOw.keep fun k hk => hbr.block k hk
        have hc65 := C6.below hc6 hbr (by omega)
        have hb55 := hb.trans (hbr.mono (by omega))
        have hlt5 := Own.lt hOw
        clear hbn hC3 hb5 hk5 hbr hb hOw hc6 hcw0 hcw1 hcw2 q0 q1 q2 q3 q4 q5
        obtain ⟨d0, d1, d2⟩ := hC3'
        obtain ⟨i0, hi, hiz0, hiz1, hiz2⟩ := info_parts u8info
        have hown' := hO5
        unfold Own at hown'
        go_wp2_with (at_builtin; refine wpList_append_own _ rfl (.tmp 50) (.tmp 54) 64 rfl w'.heap.size 5 i0 (.int .u8 0) 1 1 Tryz.underlying64 hi hiz0 hiz1 hiz2 rfl (by decide) _ _ _ rfl (hown'.alloc _) ⟨w5.heap.size, 0, none⟩ 1 1 _ rfl rfl (cell_one_new _ _ _) ?c2 ?c3 ?c4 ?c5 ?_)
        case c2 => intro y hy; simp at hy; subst hy; rfl
        case c3 => unfold maxLen; omega
        case c4 => omega
        case c5 => simp; omega
        intro v6 w6 hown6 hgrow _
        have hx8 : u.side = ((b8 u.side.toNat).toNat : Int) := by rw [b8_toNat _ (by omega)]; omega
        have hO6 := Own.snoc (b8 u.side.toNat) hx8 hown6
        have hB6 : Below w'.heap.size w5 w6 := ((Below.refl _ w5).alloc (by omega) _).grown hgrow (by simp; omega) (Own.block hO5)
        have hz6 : w5.heap.size < w6.heap.size := by have := hgrow.size; simp at this; omega
        have hb66 := hb55.trans (hB6.mono (by omega))
        have hc66 := C6.below hc65 hB6 hlt
        have hblk6 : w6.heap[wr.heap.size]? = some (.cells #[.int .i64 u.side, .string (S u.path), .int .i64 u.other] 28 (0, 0)) :=
          Foreign.grown (Own.allocd hO5 _) hgrow _ _ _ _ (by decide) ((Below.heap_alloc _ _ _ hz5).trans hblk5)
        have e0 : w6.cell? ⟨wr.heap.size, 0, none⟩ = some (.int .i64 u.side) := by simp [World.cell?, hblk6]
        have e1 : w6.cell? ⟨wr.heap.size, 1, none⟩ = some (.string (S u.path)) := by simp [World.cell?, hblk6]
        have e2 : w6.cell? ⟨wr.heap.size, 2, none⟩ = some (.int .i64 u.other) := by simp [World.cell?, hblk6]
        have HK6 : Hid _ := hblk6
        have hl66 : (L ++ [b8 u.side.toNat]).length ≤ 500 := by rw [List.length_append]; simp; omega
        have hl67 : (L ++ [b8 u.side.toNat] ++ ePath u.path).length ≤ 1000 := by rw [List.length_append]; have := ePath_len u.path hP; omega
        clear hown6 hgrow hown' hO5 hB6 hb55 hc65 d0 d1 d2 hlt5 hx8 hblk5 hblk6
        go_wp2_with fail
        go_region_with (first
          | (go_at_call 52; refine (addPath_f w'.heap.size _ (L ++ [b8 u.side.toNat]) u.path _ hP (by omega) (by first | exact hO6 | exact hO6.drew) (by first | (show w'.heap.size ≤ w6.heap.size; omega) | omega)).mono ?_; rintro e w7 ⟨v7, rfl, hO7, hB7, hF7⟩; have hu7 : w7.cell? ⟨wr.heap.size, 2, none⟩ = some (.int .i64 u.other) := (by simp [World.cell?, hF7 _ _ _ _ (by decide) HK6.out]); have hcc7 := fun o => hB7.cell (p := ⟨w.heap.size, o, none⟩) hlt)
          | (go_at_call 51; refine (addFour_any w'.heap.size _ (L ++ [b8 u.side.toNat] ++ ePath u.path) u.other _ hx2.1 hx2.2 (by omega) (by first | exact hO7 | exact hO7.drew) (by have := hB7.size; first | (show w'.heap.size ≤ w7.heap.size; simp at this; omega) | (simp at this ⊢; omega))).mono ?_; rintro e w8 ⟨v8, rfl, hO8, hB8⟩; have hcc8 := fun o => hB8.cell (p := ⟨w.heap.size, o, none⟩) hlt))
        all_goals
          have h67 : Below w.heap.size w w7 := by first | exact hb66.trans (hB7.mono (by omega)) | exact hb66.drew.trans (hB7.mono (by omega))
          have h68 : Below w.heap.size w w8 := by first | exact h67.trans (hB8.mono (by omega)) | exact h67.drew.trans (hB8.mono (by omega))
          have hz66 : w'.heap.size ≤ w6.heap.size := by omega
          have hz7 : w'.heap.size ≤ w7.heap.size := Nat.le_trans hz66 hB7.size
          have hz8 : w'.heap.size ≤ w8.heap.size := Nat.le_trans hz7 hB8.size
          have hc68 : C6 w.heap.size (.int .i64 m.kind) (.string (S m.path)) (.string (S m.value)) (.int .i64 m.left) (.int .i64 m.right) (.slice (some a) us.length cap) w8 := by
            have h7 : C6 w.heap.size (.int .i64 m.kind) (.string (S m.path)) (.string (S m.value)) (.int .i64 m.left) (.int .i64 m.right) (.slice (some a) us.length cap) w7 := by
              first
                | exact C6.below (w0 := w6) hc66 hB7 hlt
                | exact C6.below (w0 := w6.drew) hc66 hB7 hlt
            first
              | exact C6.below (w0 := w7) h7 hB8 hlt
              | exact C6.below (w0 := w7.drew) h7 hB8 hlt
          have hOf : Own w'.heap.size w8 v8 (eNum b.length ++ b ++ eNum us.length ++ eUs (us.take (j + 1))) := by
            rw [HU.out, ← List.append_assoc, ← HL.out]
            have e : L ++ eU u = L ++ [b8 u.side.toNat] ++ ePath u.path ++ e4 u.other.toNat := by unfold eU; simp
            rw [e]
            exact hO8
          clear hO6 hO7 hO8 hB7 hB8 hF7 hcc7 hcc8 hu7 h67 hb66 hc66 hz66
          try simp only [Exit.inBlock, Exit.then]
          go_wp2_with fail
          go_roundw
          case rel =>
            first
              | exact ⟨j + 1, by omega, by go_num, hOf, hc68, h68, hz8⟩
              | exact ⟨j + 1, by omega, by go_num, hOf.drew, hc68, h68.drew, hz8⟩
          case measure => simp [intOf]; omega
      · obtain rfl : j = us.length := by omega
        rw [List.take_length] at hOw
        have ht1 := hOw.run (by
          intro e
          have := congrArg List.length e
          rw [List.length_append, List.length_append, eNum_one us.length (by omega)] at this
          simp at this)
        go_wp2
        go_ret2
        refine ⟨?_, hb⟩
        have e : eNum b.length ++ b ++ eNum us.length ++ eUs us = eNum b.length ++ (b ++ (eNum us.length ++ eUs us)) := by simp
        rw [← e]
        rfl
end Go.Proofs.YtlmnikeamklpnaaGreatDoor.Tw
