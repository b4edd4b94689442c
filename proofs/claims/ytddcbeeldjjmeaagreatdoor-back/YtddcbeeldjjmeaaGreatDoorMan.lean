/- Manifests: the program's bounds, and what a manifest is as the program's value. -/
import Derived.Test.YtddcbeeldjjmeaaGreatDoorPureM
import Derived.Test.YtddcbeeldjjmeaaGreatDoorEncN
namespace Go.Proofs.YtddcbeeldjjmeaaGreatDoor.Tw
open Go.RowKit Go.Proofs.YtddcbeeldjjmeaaGreatDoor.Pu
set_option linter.unusedVariables false
set_option linter.unusedSimpArgs false

theorem width_bound (n : Int) (b : Bool) (w : World) (h : b = decide (1 ≤ n ∧ n ≤ 32)) :
    Calls Tryz.prog 78 #[.int .i64 n] w fun e w' => e = .returned (.bool b) ∧ w' = w := by
  have hk := within_any n 1 32 w (by omega)
  rw [← h] at hk
  clear h
  go_enter Tryz.func78, Tryz.ntmps78
  go_wp2_with (go_at_call 131; refine hk.mono ?_; rintro e w' ⟨rfl, rfl⟩)
  go_ret
  exact ⟨rfl, rfl⟩
theorem size_bound (n : Int) (b : Bool) (w : World) (h : b = decide (8 ≤ n ∧ n ≤ 1000)) :
    Calls Tryz.prog 93 #[.int .i64 n] w fun e w' => e = .returned (.bool b) ∧ w' = w := by
  have hk := within_any n 8 1000 w (by omega)
  rw [← h] at hk
  clear h
  go_enter Tryz.func93, Tryz.ntmps93
  go_wp2_with (go_at_call 131; refine hk.mono ?_; rintro e w' ⟨rfl, rfl⟩)
  go_ret
  exact ⟨rfl, rfl⟩
theorem total_bound (n : Int) (b : Bool) (w : World) (h : b = decide (1 ≤ n ∧ n ≤ 100000)) :
    Calls Tryz.prog 143 #[.int .i64 n] w fun e w' => e = .returned (.bool b) ∧ w' = w := by
  have hk := within_any n 1 100000 w (by omega)
  rw [← h] at hk
  clear h
  go_enter Tryz.func143, Tryz.ntmps143
  go_wp2_with (go_at_call 131; refine hk.mono ?_; rintro e w' ⟨rfl, rfl⟩)
  go_ret
  exact ⟨rfl, rfl⟩

theorem pow32 (k : Nat) (h : k ≤ 32) : (1 : Int) ≤ 2 ^ k ∧ (2 : Int) ^ k ≤ 4294967296 := by
  have h1 := pow_le32 k h
  have h2 : 1 ≤ 2 ^ k := Nat.one_le_two_pow
  have e : ((2 : Int) ^ k) = ((2 ^ k : Nat) : Int) := by simp
  rw [e]; omega

set_option maxHeartbeats 400000 in
theorem digest_bound (k : Nat) (hk1 : 1 ≤ k) (hk2 : k ≤ 32) (n : Int) (b : Bool) (w : World) (h : b = okD k n) :
    Calls Tryz.prog 162 #[.int .i64 k, .int .i64 n] w fun e w' => e = .returned (.bool b) ∧ w' = w := by
  have hw := fun w => width_bound (k : Int) true w (by simp; omega)
  have hp := pow32 k hk2
  have hk := within_any n 0 (2 ^ k - 1) w (by omega)
  have e : decide (0 ≤ n ∧ n ≤ 2 ^ k - 1) = b := by rw [h]; unfold okD; apply decide_eq_decide.2; omega
  rw [e] at hk
  clear h e
  go_enter Tryz.func162, Tryz.ntmps162
  go_wp2_with fail
  refine (hw _).mono ?_
  rintro e w' ⟨rfl, rfl⟩
  go_wp2_with fail
  refine (hk).mono ?_
  rintro e w2 ⟨rfl, rfl⟩
  go_wp2
  go_ret
  exact ⟨rfl, rfl⟩

/-- Five cells of a block. -/
def C5 (b : Nat) (c0 c1 c2 c3 c4 : Value) (w : World) : Prop :=
  w.cell? ⟨b, 0, none⟩ = some c0 ∧ w.cell? ⟨b, 1, none⟩ = some c1 ∧ w.cell? ⟨b, 2, none⟩ = some c2 ∧ w.cell? ⟨b, 3, none⟩ = some c3 ∧ w.cell? ⟨b, 4, none⟩ = some c4
theorem C5.below {B : Nat} {w0 w1 : World} {b : Nat} {c0 c1 c2 c3 c4 : Value} (h5 : C5 b c0 c1 c2 c3 c4 w0) (h : Below B w0 w1) (hb : b < B) : C5 b c0 c1 c2 c3 c4 w1 := by
  obtain ⟨k0, k1, k2, k3, k4⟩ := h5
  exact ⟨(h.cell hb).trans k0, (h.cell hb).trans k1, (h.cell hb).trans k2, (h.cell hb).trans k3, (h.cell hb).trans k4⟩
theorem C5.new (w : World) (c0 c1 c2 c3 c4 : Value) (t : TypeId) : C5 w.heap.size c0 c1 c2 c3 c4 (w.alloc (.cells #[c0, c1, c2, c3, c4] t)) :=
  ⟨by simp, by simp, by simp, by simp, by simp⟩

/-- A row of ints in memory, as a slice. -/
def IRow (w : World) (v : Value) (ds : List Int) : Prop :=
  ∃ p cap, v = .slice p ds.length cap ∧ ∀ (i : Nat) (h : i < ds.length), ∃ a, p = some a ∧ w.cell? (a.add i) = some (.int .i64 ds[i])
theorem IRow.to {w w' : World} {v : Value} {ds : List Int} (h : IRow w v ds) (k : Below w.heap.size w w') : IRow w' v ds := by
  obtain ⟨p, cap, rfl, hc⟩ := h
  refine ⟨p, cap, rfl, fun i hi => ?_⟩
  obtain ⟨a, ha, hcell⟩ := hc i hi
  exact ⟨a, ha, by rw [k.cell (cell_lt hcell)]; exact hcell⟩
/-- A manifest as the program's value. -/
def manV (m : Mf) (v : Value) : Value := .agg #[.int .i64 m.width, .int .i64 m.root, .int .i64 m.size, .int .i64 m.total, v]

theorem chunks_any (t s : Int) (w : World) (hs : 8 ≤ s ∧ s ≤ 1000) (ht : 1 ≤ t ∧ t ≤ 100000) :
    Calls Tryz.prog 163 #[.int .i64 t, .int .i64 s] w fun e w' => e = .returned (.int .i64 ((t + s - 1) / s)) ∧ w' = w := by
  go_enter Tryz.func163, Tryz.ntmps163
  go_wp2
  go_ret
  exact ⟨rfl, rfl⟩

set_option maxRecDepth 20000 in
set_option maxHeartbeats 1000000 in
theorem checkM_ok (m : Mf) (v : Value) (w : World) (hv : IRow w v m.digests) (h : okM m = true) :
    Calls Tryz.prog 108 #[manV m v] w fun e w' => e = .returned .nilIface ∧ Below w.heap.size w w' := by
  obtain ⟨wd, rt, sz, tt, ds⟩ := m
  obtain ⟨hw, hr, hs, ht, hn, hd⟩ := (okM_iff _).1 h
  simp only at hw hr hs ht hn hd hv
  clear h
  obtain ⟨k, rfl⟩ : ∃ k : Nat, wd = k := ⟨wd.toNat, by omega⟩
  simp only [Int.toNat_natCast] at hr hd
  have hk1 := fun w => width_bound (k : Int) true w (by simp; omega)
  have hk2 := fun w => digest_bound k (by omega) (by omega) rt true w hr.symm
  have hk3 := fun w => size_bound sz true w (by simp; omega)
  have hk4 := fun w => total_bound tt true w (by simp; omega)
  have hk5 := fun w => chunks_any tt sz w hs ht
  rw [← hn] at hk5
  have hk6 := fun d hd' w => digest_bound k (by omega) (by omega) d true w (hd d hd').symm
  obtain ⟨p, cap, rfl, hc⟩ := hv
  have hlen : (ds.length : Int) ≤ 100000 := by
    rw [hn]
    have h1 : (tt + sz - 1) / sz ≤ tt := by
      refine Int.ediv_le_of_le_mul (by omega) ?_
      have : tt * sz = tt + tt * (sz - 1) := by rw [Int.mul_sub, Int.mul_one]; omega
      have h2 : 1 * (sz - 1) ≤ tt * (sz - 1) := Int.mul_le_mul_of_nonneg_right ht.1 (by omega)
      omega
    omega
  clear hn hd hr hs ht hw
  unfold manV
  simp only []
  go_enter Tryz.func108, Tryz.ntmps108
  go_wp2_with fail
  refine (hk1 _).mono ?_
  rintro e w' ⟨rfl, rfl⟩
  go_wp2_with fail
  refine (hk2 _).mono ?_
  rintro e w' ⟨rfl, rfl⟩
  go_wp2_with fail
  refine (hk3 _).mono ?_
  rintro e w' ⟨rfl, rfl⟩
  go_wp2_with fail
  refine (hk4 _).mono ?_
  rintro e w' ⟨rfl, rfl⟩
  go_wp2_with fail
  go_quiet ((go_at_call 163; exact Calls.quiet_of_same (hk5 _)))
  go_wp2_with fail
  go_loopw [3, 4, 50] (fun _ _ i wr => ∃ j : Nat, j ≤ ds.length ∧ i = .int .i64 j ∧ C5 w.heap.size (.int .i64 k) (.int .i64 rt) (.int .i64 sz) (.int .i64 tt) (.slice p ds.length cap) wr ∧ Below w.heap.size w wr) (fun _ _ i _ => (ds.length - intOf i).toNat)
  case atStart =>
    refine ⟨0, by omega, rfl, ?_, ?_⟩
    · exact (C5.new w _ _ _ _ _ _)
    · exact below_drewN ((Below.refl _ w).alloc (Nat.le_refl _) _) _
  case round =>
    obtain ⟨j, hj, rfl, hc5, hb⟩ := hrel
    by_cases hjn : j < ds.length
    · obtain ⟨a, rfl, hcell⟩ := hc j hjn
      have hcw : wr.cell? (a.add j) = some (.int .i64 ds[j]) := by rw [hb.cell (cell_lt hcell)]; exact hcell
      have hk7 := fun w => hk6 ds[j] (List.getElem_mem hjn) w
      obtain ⟨q0, q1, q2, q3, q4⟩ := hc5
      go_wp2_with fail
      refine (hk7 _).mono ?_
      rintro e w' ⟨rfl, rfl⟩
      go_wp2_with fail
      go_roundw
      case rel => exact ⟨j + 1, by omega, by go_num, ⟨q0, q1, q2, q3, q4⟩, hb⟩
      case measure => simp [intOf]; omega
    · obtain rfl : j = ds.length := by omega
      go_wp2
      go_ret
      exact ⟨rfl, hb⟩
end Go.Proofs.YtddcbeeldjjmeaaGreatDoor.Tw
