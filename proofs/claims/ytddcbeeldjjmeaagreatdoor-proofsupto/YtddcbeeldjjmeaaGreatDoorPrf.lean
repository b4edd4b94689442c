/- Proofs: a step, checked; what a proof is as the program's value. -/
import Derived.Test.YtddcbeeldjjmeaaGreatDoorPureP
import Derived.Test.YtddcbeeldjjmeaaGreatDoorItoaC
import Derived.Test.YtddcbeeldjjmeaaGreatDoorCheck
namespace Go.Proofs.YtddcbeeldjjmeaaGreatDoor.Tw
open Go.RowKit Go.Proofs.YtddcbeeldjjmeaaGreatDoor.Pu
set_option linter.unusedVariables false
set_option linter.unusedSimpArgs false

theorem side_bound (n : Int) (b : Bool) (w : World) (h : b = decide (0 ≤ n ∧ n ≤ 1)) :
    Calls Tryz.prog 227 #[.int .i64 n] w fun e w' => e = .returned (.bool b) ∧ w' = w := by
  have hk := within_any n 0 1 w (by omega)
  rw [← h] at hk
  clear h
  go_enter Tryz.func227, Tryz.ntmps227
  go_wp2_with (go_at_call 131; refine hk.mono ?_; rintro e w' ⟨rfl, rfl⟩)
  go_ret
  exact ⟨rfl, rfl⟩
theorem steps_bound (n : Int) (b : Bool) (w : World) (h : b = decide (0 ≤ n ∧ n ≤ 37)) :
    Calls Tryz.prog 150 #[.int .i64 n] w fun e w' => e = .returned (.bool b) ∧ w' = w := by
  have hk := within_any n 0 37 w (by omega)
  rw [← h] at hk
  clear h
  go_enter Tryz.func150, Tryz.ntmps150
  go_wp2_with (go_at_call 131; refine hk.mono ?_; rintro e w' ⟨rfl, rfl⟩)
  go_ret
  exact ⟨rfl, rfl⟩

/-- A step as the program's value. -/
def upV (u : Us) : Value := .agg #[.int .i64 u.side, .string (S u.path), .int .i64 u.other]
/-- Three cells of a block. -/
def C3 (b : Nat) (c0 c1 c2 : Value) (w : World) : Prop :=
  w.cell? ⟨b, 0, none⟩ = some c0 ∧ w.cell? ⟨b, 1, none⟩ = some c1 ∧ w.cell? ⟨b, 2, none⟩ = some c2
theorem C3.below {B : Nat} {w0 w1 : World} {b : Nat} {c0 c1 c2 : Value} (h5 : C3 b c0 c1 c2 w0) (h : Below B w0 w1) (hb : b < B) : C3 b c0 c1 c2 w1 := by
  obtain ⟨k0, k1, k2⟩ := h5
  exact ⟨(h.cell hb).trans k0, (h.cell hb).trans k1, (h.cell hb).trans k2⟩
theorem C3.new (w : World) (c0 c1 c2 : Value) (t : TypeId) : C3 w.heap.size c0 c1 c2 (w.alloc (.cells #[c0, c1, c2] t)) :=
  ⟨by simp, by simp, by simp⟩

set_option maxHeartbeats 400000 in
theorem checkUp_ok (u : Us) (w : World) (hpl : u.path.length ≤ 9223372036854775807) (h : okU u = true) :
    Calls Tryz.prog 151 #[upV u] w fun e w' => e = .returned .nilIface ∧ Below w.heap.size w w' := by
  obtain ⟨s, p, x⟩ := u
  obtain ⟨h1, h2, h3⟩ := (okU_iff _).1 h
  simp only at h1 h2 h3 hpl
  have hk1 := fun w => side_bound s true w (by simp; omega)
  have hk2 := fun w => path_bound p true w hpl h2.symm
  have hk3 := fun w => four_bound x true w h3.symm
  have hc0 := C3.new w (.int .i64 s) (.string (S p)) (.int .i64 x) 28
  have hb0 := (Below.refl w.heap.size w).alloc (Nat.le_refl _) (.cells #[.int .i64 s, .string (S p), .int .i64 x] 28)
  clear h h1 h2 h3 hpl
  unfold upV
  simp only
  go_enter Tryz.func151, Tryz.ntmps151
  go_wp2_with fail
  refine (hk1 _).mono ?_
  rintro e w' ⟨rfl, rfl⟩
  go_wp2_with fail
  refine (hk2 _).mono ?_
  rintro e w1 ⟨rfl, hb1⟩
  have hc1 := hc0.below hb1 (by simp)
  have hbx := hb0.trans (hb1.mono (by simp))
  clear hb1 hc0 hb0
  obtain ⟨q0, q1, q2⟩ := hc1
  go_wp2_with fail
  refine (hk3 _).mono ?_
  rintro e w' ⟨rfl, rfl⟩
  go_wp2
  go_ret
  exact ⟨rfl, hbx⟩

set_option maxHeartbeats 1000000 in
theorem checkUp_no (A : Nat → Addr) (B : Nat) (u : Us) (w : World) (hS : Sents A B w) (hpl : u.path.length ≤ 9223372036854775807) (h : okU u = false) :
    Calls Tryz.prog 151 #[upV u] w fun e w' => ∃ t x, e = .returned (.iface t x) ∧ NoB A (.iface t x) ∧ Below w.heap.size w w' := by
  obtain ⟨s, p, x⟩ := u
  have hno : ¬ _ := fun y => Bool.eq_false_iff.1 h ((okU_iff ⟨s, p, x⟩).2 y)
  simp only at hno hpl
  have hc0 := C3.new w (.int .i64 s) (.string (S p)) (.int .i64 x) 28
  have hb0 := (Below.refl w.heap.size w).alloc (Nat.le_refl _) (.cells #[.int .i64 s, .string (S p), .int .i64 x] 28)
  have hvw : ∀ (o : Obj), (w.alloc o).cell? ⟨0, 0, none⟩ = some (.iface 423 (.pointer (some (A 0)))) := fun o => (hS.to ((Below.refl B w).alloc hS.size o)).all.1
  have hvw0 := hS.all.1
  have hlow := hS.lowg 0 (by decide)
  have hsz0 := hS.size
  have hnob : NoB A (.iface 423 (.pointer (some (A 0)))) := NoB.base
  unfold upV
  simp only
  by_cases h1 : 0 ≤ s ∧ s ≤ 1
  · have hk1 := fun w => side_bound s true w (by simp; omega)
    cases h2 : isPb p with
    | false =>
      have hk2 := fun w => path_bound p false w hpl h2.symm
      clear hno h h1 h2 hpl
      go_enter Tryz.func151, Tryz.ntmps151
      go_wp2_with fail
      refine (hk1 _).mono ?_
      rintro e w' ⟨rfl, rfl⟩
      go_wp2_with fail
      refine (hk2 _).mono ?_
      rintro e w1 ⟨rfl, hb1⟩
      have hbx := hb0.trans (hb1.mono (by simp))
      have hv := (hS.to (hbx.mono hsz0)).all.1
      clear hb1 hc0 hb0
      go_wp2_with fail
      refine (at_nob (A := A) _ _ _ hnob).mono ?_
      rintro e w' ⟨t', x', rfl, hbad', rfl⟩
      go_wp2
      go_ret
      exact ⟨_, _, rfl, hbad', hbx⟩
    | true =>
      have h3 : is32 x = false := by
        cases h3 : is32 x with
        | false => rfl
        | true => exact absurd ⟨h1, h2, h3⟩ hno
      have hk2 := fun w => path_bound p true w hpl h2.symm
      have hk3 := fun w => four_bound x false w h3.symm
      clear hno h h1 h2 h3 hpl
      go_enter Tryz.func151, Tryz.ntmps151
      go_wp2_with fail
      refine (hk1 _).mono ?_
      rintro e w' ⟨rfl, rfl⟩
      go_wp2_with fail
      refine (hk2 _).mono ?_
      rintro e w1 ⟨rfl, hb1⟩
      have hc1 := hc0.below hb1 (by simp)
      have hbx := hb0.trans (hb1.mono (by simp))
      have hv := (hS.to (hbx.mono hsz0)).all.1
      clear hb1 hc0 hb0
      obtain ⟨q0, q1, q2⟩ := hc1
      go_wp2_with fail
      refine (hk3 _).mono ?_
      rintro e w' ⟨rfl, rfl⟩
      go_wp2_with fail
      refine (at_nob (A := A) _ _ _ hnob).mono ?_
      rintro e w' ⟨t', x', rfl, hbad', rfl⟩
      go_wp2
      go_ret
      exact ⟨_, _, rfl, hbad', hbx⟩
  · have hk1 := fun w => side_bound s false w (by simp; omega)
    clear hno h h1 hpl
    go_enter Tryz.func151, Tryz.ntmps151
    go_wp2_with fail
    refine (hk1 _).mono ?_
    rintro e w' ⟨rfl, rfl⟩
    go_wp2_with fail
    refine (at_nob (A := A) _ _ _ hnob).mono ?_
    rintro e w' ⟨t', x', rfl, hbad', rfl⟩
    go_wp2
    go_ret
    exact ⟨_, _, rfl, hbad', hb0⟩
end Go.Proofs.YtddcbeeldjjmeaaGreatDoor.Tw
