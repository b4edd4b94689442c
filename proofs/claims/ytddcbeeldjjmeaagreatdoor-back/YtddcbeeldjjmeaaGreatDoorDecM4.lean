/- The program's reader: a manifest that is wrong; DecodeManifest. -/
import Derived.Test.YtddcbeeldjjmeaaGreatDoorDecM3
namespace Go.Proofs.YtddcbeeldjjmeaaGreatDoor.Tw
open Go.RowKit Go.Proofs.YtddcbeeldjjmeaaGreatDoor.Pu
set_option linter.unusedVariables false
set_option linter.unusedSimpArgs false

/-- No manifest. -/
def zeroMV : Value := .agg #[.int .i64 0, .int .i64 0, .int .i64 0, .int .i64 0, .slice none 0 0]

theorem pM_none (l : List UInt8) (h : pM l = none) : l = [] ∨ ∃ (c : UInt8) (l0 : List UInt8), l = c :: l0 ∧ ((¬ (1 ≤ c.toNat ∧ c.toNat ≤ 32)) ∨ ((1 ≤ c.toNat ∧ c.toNat ≤ 32) ∧ (pDig c.toNat l0 = none ∨ ∃ (x : Nat) (l1 : List UInt8), pDig c.toNat l0 = some (x, l1) ∧ (pSizes l1 = none ∨ ∃ (s t : Nat) (l2 : List UInt8), pSizes l1 = some (s, t, l2) ∧ pDs c.toNat ((t + s - 1) / s) l2 = none)))) := by
  match l, h with
  | [], _ => exact Or.inl rfl
  | c :: b, h =>
    refine Or.inr ⟨c, b, rfl, ?_⟩
    rw [pM_cons] at h
    by_cases hc : 1 ≤ c.toNat ∧ c.toNat ≤ 32
    · rw [if_pos hc] at h
      refine Or.inr ⟨hc, ?_⟩
      cases h1 : pDig c.toNat b with
      | none => exact Or.inl rfl
      | some x =>
        obtain ⟨x, l1⟩ := x
        rw [h1] at h
        simp only at h
        refine Or.inr ⟨x, l1, rfl, ?_⟩
        cases h2 : pSizes l1 with
        | none => exact Or.inl rfl
        | some y =>
          obtain ⟨s, t, l2⟩ := y
          rw [h2] at h
          simp only at h
          refine Or.inr ⟨s, t, l2, rfl, ?_⟩
          cases h3 : pDs c.toNat ((t + s - 1) / s) l2 with
          | none => rfl
          | some z =>
            obtain ⟨ds, l3⟩ := z
            rw [h3] at h
            cases h
    · exact Or.inl hc

set_option maxHeartbeats 4000000 in
theorem man_bad (A : Nat → Addr) (B : Nat) (rb : Nat) (l : List UInt8) (w : World) (hS : Sents A B w) (hT : Tab w) (hTB : 23 < B) (hB : B ≤ rb) (hp : pM l = none) (hl : l.length ≤ 9223372036854775807)
    (hc : w.cell? ⟨rb, 0, none⟩ = some (.string (S l))) (hf : w.frozen? ⟨rb, 0, none⟩ = false) :
    Calls Tryz.prog 109 #[.pointer (some ⟨rb, 0, none⟩)] w fun e w' => Fails A rb w zeroMV e w' := by
  have hnn := neq_nil
  have hhd := neq_held
  have hBs := hS.size
  have hrb : rb < w.heap.size := cell_lt hc
  have hrn : w.heap.size ≠ rb := by omega
  have hb0 : ∀ o, Adv ⟨rb, 0, none⟩ l w (w.alloc o) := fun o => (Adv.refl hc hf).alloc o hrb
  unfold zeroMV
  rcases pM_none l hp with rfl | ⟨c, l0, rfl, hcw | ⟨hcw, h1 | ⟨x, l1, h1, h2 | ⟨s, t, l2, h2, h3⟩⟩⟩⟩
  · have hk1 := fun w hS hc hf => single_bad A B rb w hS hc hf
    clear hp hc hf
    go_enter Tryz.func109, Tryz.ntmps109
    go_wp2_with fail
    refine (hk1 _ (hS.to ((Below.refl B w).alloc hBs _)) (hb0 _).rest (hb0 _).mark).mono ?_
    rintro e w1 ⟨t, x, rfl, hbad, hb9⟩
    obtain ⟨hq1, hq2⟩ := hb9.five hrn
    go_wp2_with fail
    refine (at_bad (A := A) _ _ _ hbad).mono ?_
    rintro e w' ⟨t', x', rfl, hbad', rfl⟩
    go_wp2_with fail
    have HB : Hid _ := hb9
    clear hb9
    try simp only []
    repeat go_step
    refine bodyPost_ret (v := .tuple #[.agg #[.int .i64 0, .int .i64 0, .int .i64 0, .int .i64 0, .slice none 0 0], .iface t' x']) (by simp [results, Tryz.results109, go_sem, hq1]; try rfl) rfl ?_
    refine ⟨_, _, [], rfl, hbad', ?_⟩
    repeat (refine Adv.setNew ?_ _ _ (Nat.le_refl _) hrn)
    exact (hb0 _).trans HB.out
  · have hk1 := fun w hc hf => single_ok rb c l0 w hl hc hf
    have hk2 := fun w => width_bound (c.toNat : Int) false w (by simp; omega)
    have hbt : Bad A (.iface 423 (.pointer (some (A 11)))) := Bad.base _ (by decide)
    clear hp hc hf
    go_enter Tryz.func109, Tryz.ntmps109
    go_wp2_with fail
    refine (hk1 _ (hb0 _).rest (hb0 _).mark).mono ?_
    rintro e w1 ⟨rfl, hb1⟩
    have hc1 := hb1.rest
    have hf1 := hb1.mark
    have hv := (hS.to (((hb0 _).trans hb1).below hB hBs)).all
    have hb9 := hb1
    obtain ⟨hq1, hq2⟩ := hb9.five hrn
    go_wp2_with fail
    refine (hk2 _).mono ?_
    rintro e w' ⟨rfl, rfl⟩
    go_wp2_with fail
    refine (at_bad (A := A) _ _ _ hbt).mono ?_
    rintro e w' ⟨t', x', rfl, hbad', rfl⟩
    go_wp2_with fail
    have HB : Hid _ := hb9
    clear hb9
    try simp only []
    repeat go_step
    refine bodyPost_ret (v := .tuple #[.agg #[.int .i64 0, .int .i64 0, .int .i64 0, .int .i64 0, .slice none 0 0], .iface t' x']) (by simp [results, Tryz.results109, go_sem, hq1]; try rfl) rfl ?_
    refine ⟨_, _, l0, rfl, hbad', ?_⟩
    repeat (refine Adv.setNew ?_ _ _ (Nat.le_refl _) hrn)
    exact (hb0 _).trans HB.out
  · have hl0 : l0.length ≤ 9223372036854775807 := by simp only [List.length_cons] at hl; omega
    have hk1 := fun w hc hf => single_ok rb c l0 w hl hc hf
    have hk2 := fun w => width_bound (c.toNat : Int) true w (by simp; omega)
    have hk3 := fun w hS hc hf => dig_bad A B rb c.toNat hcw.1 hcw.2 l0 w hS hB h1 hl0 hc hf
    clear hp h1 hc hf
    go_enter Tryz.func109, Tryz.ntmps109
    go_wp2_with fail
    refine (hk1 _ (hb0 _).rest (hb0 _).mark).mono ?_
    rintro e w1 ⟨rfl, hb1⟩
    have hc1 := hb1.rest
    have hf1 := hb1.mark
    have hS1 := hS.to (((hb0 _).trans hb1).below hB hBs)
    go_wp2_with fail
    refine (hk2 _).mono ?_
    rintro e w' ⟨rfl, rfl⟩
    go_wp2_with fail
    refine (hk3 _ hS1 hc1 hf1).mono ?_
    rintro e w2 ⟨t, x, l1, rfl, hbad, hb2⟩
    have hb9 := hb1.trans hb2
    obtain ⟨hq1, hq2⟩ := hb9.five hrn
    clear hb1 hb2
    go_wp2_with fail
    refine (at_bad (A := A) _ _ _ hbad).mono ?_
    rintro e w' ⟨t', x', rfl, hbad', rfl⟩
    go_wp2_with fail
    have HB : Hid _ := hb9
    clear hb9
    try simp only []
    repeat go_step
    refine bodyPost_ret (v := .tuple #[.agg #[.int .i64 0, .int .i64 0, .int .i64 0, .int .i64 0, .slice none 0 0], .iface t' x']) (by simp [results, Tryz.results109, go_sem, hq1]; try rfl) rfl ?_
    refine ⟨_, _, l1, rfl, hbad', ?_⟩
    repeat (refine Adv.setNew ?_ _ _ (Nat.le_refl _) hrn)
    exact (hb0 _).trans HB.out
  · have hl0 : l0.length ≤ 9223372036854775807 := by simp only [List.length_cons] at hl; omega
    have hk1 := fun w hc hf => single_ok rb c l0 w hl hc hf
    have hk2 := fun w => width_bound (c.toNat : Int) true w (by simp; omega)
    have hl1 := Nat.le_trans (pDig_rest _ _ _ _ h1) hl0
    have hk3 := fun w hc hf => dig_ok rb c.toNat hcw.1 hcw.2 l0 l1 x w h1 hl0 hc hf
    have hk4 := fun w hS hc hf => sizes_bad A B rb l1 w hS hB h2 hl1 hc hf
    clear hp h1 h2 hc hf
    go_enter Tryz.func109, Tryz.ntmps109
    go_wp2_with fail
    refine (hk1 _ (hb0 _).rest (hb0 _).mark).mono ?_
    rintro e w1 ⟨rfl, hb1⟩
    have hc1 := hb1.rest
    have hf1 := hb1.mark
    go_wp2_with fail
    refine (hk2 _).mono ?_
    rintro e w' ⟨rfl, rfl⟩
    go_wp2_with fail
    refine (hk3 _ hc1 hf1).mono ?_
    rintro e w2 ⟨rfl, hb2⟩
    have hc2 := hb2.rest
    have hf2 := hb2.mark
    have hS2 := hS.to (((hb0 _).trans (hb1.trans hb2)).below hB hBs)
    go_wp2_with fail
    refine (hk4 _ hS2 hc2 hf2).mono ?_
    rintro e w3 ⟨t, y, l3, rfl, hbad, hb3⟩
    have hb9 := (hb1.trans hb2).trans hb3
    obtain ⟨hq1, hq2⟩ := hb9.five hrn
    clear hb1 hb2 hb3
    go_wp2_with fail
    have HB : Hid _ := hb9
    clear hb9
    try simp only []
    repeat go_step
    refine bodyPost_ret (v := .tuple #[.agg #[.int .i64 0, .int .i64 0, .int .i64 0, .int .i64 0, .slice none 0 0], .iface t y]) (by simp [results, Tryz.results109, go_sem, hq1]; try rfl) rfl ?_
    refine ⟨_, _, l3, rfl, hbad, ?_⟩
    repeat (refine Adv.setNew ?_ _ _ (Nat.le_refl _) hrn)
    exact (hb0 _).trans HB.out
  · have hl0 : l0.length ≤ 9223372036854775807 := by simp only [List.length_cons] at hl; omega
    have hk1 := fun w hc hf => single_ok rb c l0 w hl hc hf
    have hk2 := fun w => width_bound (c.toNat : Int) true w (by simp; omega)
    obtain ⟨_, hs, ht⟩ := pSizes_sound _ _ _ _ h2
    have hn := chunks_le s t hs ht
    have hl1 := Nat.le_trans (pDig_rest _ _ _ _ h1) hl0
    have hl2 := Nat.le_trans (pSizes_rest _ _ _ _ h2) hl1
    have hk3 := fun w hc hf => dig_ok rb c.toNat hcw.1 hcw.2 l0 l1 x w h1 hl0 hc hf
    have hk4 := fun w hc hf => sizes_ok rb l1 l2 s t w h2 hl1 hc hf
    have hk5 := fun w => chunks_any (t : Int) (s : Int) w (by omega) (by omega)
    rw [chunks_nat s t (by omega) (by omega)] at hk5
    have hk6 := fun w hS hT hc hf => digs_bad A B rb c.toNat ((t + s - 1) / s) hcw.1 hcw.2 hn l2 w hS hT hTB hB h3 hl2 hc hf
    generalize (t + s - 1) / s = n at hk5 hk6 hn
    clear hp h1 h2 h3 hc hf
    go_enter Tryz.func109, Tryz.ntmps109
    go_wp2_with fail
    refine (hk1 _ (hb0 _).rest (hb0 _).mark).mono ?_
    rintro e w1 ⟨rfl, hb1⟩
    have hc1 := hb1.rest
    have hf1 := hb1.mark
    go_wp2_with fail
    refine (hk2 _).mono ?_
    rintro e w' ⟨rfl, rfl⟩
    go_wp2_with fail
    refine (hk3 _ hc1 hf1).mono ?_
    rintro e w2 ⟨rfl, hb2⟩
    have hc2 := hb2.rest
    have hf2 := hb2.mark
    go_wp2_with fail
    refine (hk4 _ hc2 hf2).mono ?_
    rintro e w3 ⟨rfl, hb3⟩
    have hc3 := hb3.rest
    have hf3 := hb3.mark
    have hb4 := (hb0 _).trans ((hb1.trans hb2).trans hb3)
    have hS3 := hS.to (hb4.below hB hBs)
    have hT3 := hT.to (hb4.below hB hBs) hTB
    go_wp2_with fail
    refine (hk5 _).mono ?_
    rintro e w' ⟨rfl, rfl⟩
    go_wp2_with fail
    refine (hk6 _ hS3 hT3 hc3 hf3).mono ?_
    rintro e w4 ⟨t', y, l3, rfl, hbad, hb5⟩
    have hb9 := ((hb1.trans hb2).trans hb3).trans hb5
    obtain ⟨hq1, hq2⟩ := hb9.five hrn
    clear hb1 hb2 hb3 hb4 hb5
    go_wp2_with fail
    have HB : Hid _ := hb9
    clear hb9
    try simp only []
    repeat go_step
    refine bodyPost_ret (v := .tuple #[.agg #[.int .i64 0, .int .i64 0, .int .i64 0, .int .i64 0, .slice none 0 0], .iface t' y]) (by simp [results, Tryz.results109, go_sem, hq1]; try rfl) rfl ?_
    refine ⟨_, _, l3, rfl, hbad, ?_⟩
    repeat (refine Adv.setNew ?_ _ _ (Nat.le_refl _) hrn)
    exact (hb0 _).trans HB.out
end Go.Proofs.YtddcbeeldjjmeaaGreatDoor.Tw
