/- The program's reader: a manifest; DecodeManifest. -/
import Derived.Test.YtddcbeeldjjmeaaGreatDoorDecM2
namespace Go.Proofs.YtddcbeeldjjmeaaGreatDoor.Tw
open Go.RowKit Go.Proofs.YtddcbeeldjjmeaaGreatDoor.Pu
set_option linter.unusedVariables false
set_option linter.unusedSimpArgs false

theorem pM_parts (l r : List UInt8) (m : Mf) (h : pM l = some (m, r)) : ∃ (c : UInt8) (l0 l1 l2 : List UInt8) (x s t : Nat) (ds : List Int), l = c :: l0 ∧ (1 ≤ c.toNat ∧ c.toNat ≤ 32) ∧ pDig c.toNat l0 = some (x, l1) ∧ pSizes l1 = some (s, t, l2) ∧ pDs c.toNat ((t + s - 1) / s) l2 = some (ds, r) ∧ m = ⟨c.toNat, x, s, t, ds⟩ := by
  match l, h with
  | c :: b, h =>
    rw [pM_cons] at h
    by_cases hc : 1 ≤ c.toNat ∧ c.toNat ≤ 32
    · rw [if_pos hc] at h
      cases h1 : pDig c.toNat b with
      | none => rw [h1] at h; cases h
      | some x =>
        obtain ⟨x, l1⟩ := x
        rw [h1] at h
        simp only at h
        cases h2 : pSizes l1 with
        | none => rw [h2] at h; cases h
        | some y =>
          obtain ⟨s, t, l2⟩ := y
          rw [h2] at h
          simp only at h
          cases h3 : pDs c.toNat ((t + s - 1) / s) l2 with
          | none => rw [h3] at h; cases h
          | some z =>
            obtain ⟨ds, l3⟩ := z
            rw [h3] at h
            simp only [Option.some.injEq, Prod.mk.injEq] at h
            obtain ⟨rfl, rfl⟩ := h
            exact ⟨c, b, l1, l2, x, s, t, ds, rfl, hc, h1, h2, h3, rfl⟩
    · rw [if_neg hc] at h; cases h
theorem chunks_le (s t : Nat) (hs : 8 ≤ s ∧ s ≤ 1000) (ht : 1 ≤ t ∧ t ≤ 100000) : (t + s - 1) / s ≤ 100000 := by
  have : (t + s - 1) / s ≤ t := by
    refine Nat.div_le_of_le_mul ?_
    have h : t * s = t + t * (s - 1) := by rw [Nat.mul_sub, Nat.mul_one]; have := Nat.le_mul_of_pos_right t (show 0 < s by omega); omega
    have h2 : 1 * (s - 1) ≤ t * (s - 1) := Nat.mul_le_mul_right _ ht.1
    rw [Nat.mul_comm]
    omega
  omega

theorem NRow.setO {w : World} {g : Nat} {l : List Int} (h : NRow w g l) (b o : Nat) (v : Value) (hn : g ≠ b) : NRow (w.setCell ⟨b, o, none⟩ v) g l := h.keep (Below.heap_setCell _ _ _ _ hn)

set_option maxHeartbeats 1000000 in
theorem man_ok (rb : Nat) (l r : List UInt8) (m : Mf) (w : World) (hp : pM l = some (m, r)) (hl : l.length ≤ 9223372036854775807)
    (hc : w.cell? ⟨rb, 0, none⟩ = some (.string (S l))) (hf : w.frozen? ⟨rb, 0, none⟩ = false) :
    Calls Tryz.prog 109 #[.pointer (some ⟨rb, 0, none⟩)] w fun e w' => ∃ g, e = .returned (.tuple #[manV m (.slice (some ⟨g, 0, none⟩) m.digests.length m.digests.length), .nilIface]) ∧ w.heap.size ≤ g ∧ NRow w' g m.digests ∧ Adv ⟨rb, 0, none⟩ r w w' := by
  have hnn := neq_nil
  have hrb : rb < w.heap.size := cell_lt hc
  have hrn : w.heap.size ≠ rb := by omega
  have hb0 : ∀ o, Adv ⟨rb, 0, none⟩ l w (w.alloc o) := fun o => (Adv.refl hc hf).alloc o hrb
  obtain ⟨c, l0, l1, l2, x, s, t, ds, rfl, hcw, h1, h2, h3, rfl⟩ := pM_parts _ _ _ hp
  obtain ⟨_, hs, ht⟩ := pSizes_sound _ _ _ _ h2
  have hn := chunks_le s t hs ht
  have hl0 : l0.length ≤ 9223372036854775807 := by simp only [List.length_cons] at hl; omega
  have hl1 := Nat.le_trans (pDig_rest _ _ _ _ h1) hl0
  have hl2 := Nat.le_trans (pSizes_rest _ _ _ _ h2) hl1
  have hdl := (pDs_sound _ _ _ _ _ h3).2.1
  have hk1 := fun w hc hf => single_ok rb c l0 w hl hc hf
  have hk2 := fun w => width_bound (c.toNat : Int) true w (by simp; omega)
  have hk3 := fun w hc hf => dig_ok rb c.toNat hcw.1 hcw.2 l0 l1 x w h1 hl0 hc hf
  have hk4 := fun w hc hf => sizes_ok rb l1 l2 s t w h2 hl1 hc hf
  have hk5 := fun w => chunks_any (t : Int) (s : Int) w (by omega) (by omega)
  rw [chunks_nat s t (by omega) (by omega)] at hk5
  have hk6 := fun w hc hf => digs_ok rb c.toNat ((t + s - 1) / s) hcw.1 hcw.2 hn l2 r ds w h3 hl2 hc hf
  rw [← hdl] at hk5 hk6
  clear hp h1 h2 h3 hc hf hn hdl hl hl0 hl1 hl2
  unfold manV
  simp only
  go_enter Tryz.func109, Tryz.ntmps109
  go_wp2_with fail
  refine (hk1 _ (hb0 _).rest (hb0 _).mark).mono ?_
  rintro e w1 ⟨rfl, hb1⟩
  have hc1 := hb1.rest
  have hf1 := hb1.mark
  go_wp2_with fail
  refine (hk2 _).mono ?_
  rintro e w' ⟨rfl, rfl⟩
  go_wp2_with fail
  refine (hk3 _ hc1 hf1).mono ?_
  rintro e w2 ⟨rfl, hb2⟩
  have hc2 := hb2.rest
  have hf2 := hb2.mark
  go_wp2_with fail
  refine (hk4 _ hc2 hf2).mono ?_
  rintro e w3 ⟨rfl, hb3⟩
  have hc3 := hb3.rest
  have hf3 := hb3.mark
  go_wp2_with fail
  refine (hk5 _).mono ?_
  rintro e w' ⟨rfl, rfl⟩
  go_wp2_with fail
  refine (hk6 _ hc3 hf3).mono ?_
  rintro e w4 ⟨g, rfl, hg, hrow, hb4⟩
  have hb5 := ((hb1.trans hb2).trans hb3).trans hb4
  obtain ⟨hq1, hq2⟩ := hb5.five hrn
  have hgw : w.heap.size < g := by
    have a1 := hb1.size
    have a2 := hb2.size
    have a3 := hb3.size
    simp at a1
    omega
  have hb6 := (hb0 _).trans hb5
  have HG : Hid _ := hgw
  have HR : Hid _ := hrow
  clear hk1 hk2 hk3 hk4 hk5 hk6 hb1 hb2 hb3 hb4 hb5 hc1 hf1 hc2 hf2 hc3 hf3 hg hrow hgw
  simp only []
  repeat go_step
  refine bodyPost_ret (v := .tuple #[.agg #[.int .i64 c.toNat, .int .i64 x, .int .i64 s, .int .i64 t, .slice (some ⟨g, 0, none⟩) ds.length ds.length], .nilIface]) (by simp [results, Tryz.results109, go_sem, hq1]; try rfl) rfl ⟨g, rfl, Nat.le_of_lt HG.out, ?_, ?_⟩
  · repeat (refine NRow.setO ?_ _ _ _ (by have := HG.out; omega))
    exact HR.out
  · repeat (refine Adv.setNew ?_ _ _ (Nat.le_refl _) hrn)
    exact hb6
end Go.Proofs.YtddcbeeldjjmeaaGreatDoor.Tw
