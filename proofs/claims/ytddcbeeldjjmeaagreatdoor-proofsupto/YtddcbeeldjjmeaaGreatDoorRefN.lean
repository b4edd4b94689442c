/- The document's answer: EncodeNode. -/
import Derived.Test.YtddcbeeldjjmeaaGreatDoorRefE
import Derived.Test.YtddcbeeldjjmeaaGreatDoorEncT
import Derived.Deep.RegionWith
namespace Go.Proofs.YtddcbeeldjjmeaaGreatDoor.Tw
open Go.RowKit Go.Proofs.YtddcbeeldjjmeaaGreatDoor.Pu
set_option linter.unusedVariables false
set_option linter.unusedSimpArgs false

set_option maxRecDepth 20000 in
set_option maxHeartbeats 1000000 in
theorem renc_kind (k : Int) (p v : List UInt8) (x y : Int) (hpl : p.length ≤ 9223372036854775807) (h0 : ¬ k = 0) (h1 : ¬ k = 1) (h2 : ¬ k = 2) (w : World) :
    Calls Tryz.prog 45 #[nodeV ⟨k, p, v, x, y⟩] w fun e w' => e = .returned (.tuple #[.string (S []), .int .i64 3]) ∧ Below w.heap.size w w' := by
  have hk1 := fun w => risPath_any p w hpl
  have hsv := S_size v
  unfold nodeV
  go_enter Tryz.func45, Tryz.ntmps45
  go_wp2_with (first | (go_at_call 47; refine (hk1 _).mono ?_; rintro e w' ⟨rfl, rfl⟩) | (go_at_call 48; refine (ris32_any _ _).mono ?_; rintro e w' ⟨rfl, rfl⟩))
  go_ret2
  exact ⟨rfl, (Below.refl _ w).alloc (Nat.le_refl _) _⟩

set_option maxRecDepth 20000 in
set_option maxHeartbeats 1000000 in
theorem renc_leaf_p (p v : List UInt8) (x y : Int) (hpl : p.length ≤ 9223372036854775807) (hp : isPb p = false) (w : World) :
    Calls Tryz.prog 45 #[nodeV ⟨0, p, v, x, y⟩] w fun e w' => e = .returned (.tuple #[.string (S []), .int .i64 3]) ∧ Below w.heap.size w w' := by
  have hk1 := fun w => risPath_any p w hpl
  rw [hp] at hk1
  have hsv := S_size v
  unfold nodeV
  go_enter Tryz.func45, Tryz.ntmps45
  go_wp2_with (first | (go_at_call 47; refine (hk1 _).mono ?_; rintro e w' ⟨rfl, rfl⟩) | (go_at_call 48; refine (ris32_any _ _).mono ?_; rintro e w' ⟨rfl, rfl⟩))
  go_ret2
  exact ⟨rfl, (Below.refl _ w).alloc (Nat.le_refl _) _⟩

set_option maxRecDepth 20000 in
set_option maxHeartbeats 1000000 in
theorem renc_leaf_v (p v : List UInt8) (x y : Int) (hpl : p.length ≤ 9223372036854775807) (hp : isPb p = true) (hv : 20 < v.length) (w : World) :
    Calls Tryz.prog 45 #[nodeV ⟨0, p, v, x, y⟩] w fun e w' => e = .returned (.tuple #[.string (S []), .int .i64 3]) ∧ Below w.heap.size w w' := by
  have hk1 := fun w => risPath_any p w hpl
  rw [hp] at hk1
  have hsv := S_size v
  unfold nodeV
  go_enter Tryz.func45, Tryz.ntmps45
  go_wp2_with (first | (go_at_call 47; refine (hk1 _).mono ?_; rintro e w' ⟨rfl, rfl⟩) | (go_at_call 48; refine (ris32_any _ _).mono ?_; rintro e w' ⟨rfl, rfl⟩))
  go_ret2
  exact ⟨rfl, (Below.refl _ w).alloc (Nat.le_refl _) _⟩

set_option maxRecDepth 20000 in
set_option maxHeartbeats 1000000 in
theorem renc_leaf_x (p v : List UInt8) (x y : Int) (hpl : p.length ≤ 9223372036854775807) (hp : isPb p = true) (hv : v.length ≤ 20) (hx : ¬ x = 0) (w : World) :
    Calls Tryz.prog 45 #[nodeV ⟨0, p, v, x, y⟩] w fun e w' => e = .returned (.tuple #[.string (S []), .int .i64 3]) ∧ Below w.heap.size w w' := by
  have hk1 := fun w => risPath_any p w hpl
  rw [hp] at hk1
  have hsv := S_size v
  unfold nodeV
  go_enter Tryz.func45, Tryz.ntmps45
  go_wp2_with (first | (go_at_call 47; refine (hk1 _).mono ?_; rintro e w' ⟨rfl, rfl⟩) | (go_at_call 48; refine (ris32_any _ _).mono ?_; rintro e w' ⟨rfl, rfl⟩))
  go_ret2
  exact ⟨rfl, (Below.refl _ w).alloc (Nat.le_refl _) _⟩

set_option maxRecDepth 20000 in
set_option maxHeartbeats 1000000 in
theorem renc_leaf_y (p v : List UInt8) (y : Int) (hpl : p.length ≤ 9223372036854775807) (hp : isPb p = true) (hv : v.length ≤ 20) (hy : ¬ y = 0) (w : World) :
    Calls Tryz.prog 45 #[nodeV ⟨0, p, v, 0, y⟩] w fun e w' => e = .returned (.tuple #[.string (S []), .int .i64 3]) ∧ Below w.heap.size w w' := by
  have hk1 := fun w => risPath_any p w hpl
  rw [hp] at hk1
  have hsv := S_size v
  unfold nodeV
  go_enter Tryz.func45, Tryz.ntmps45
  go_wp2_with (first | (go_at_call 47; refine (hk1 _).mono ?_; rintro e w' ⟨rfl, rfl⟩) | (go_at_call 48; refine (ris32_any _ _).mono ?_; rintro e w' ⟨rfl, rfl⟩))
  go_ret2
  exact ⟨rfl, (Below.refl _ w).alloc (Nat.le_refl _) _⟩

set_option maxRecDepth 20000 in
set_option maxHeartbeats 1000000 in
theorem renc_branch_p (p v : List UInt8) (x y : Int) (hpl : p.length ≤ 9223372036854775807) (hp : isPb p = false) (w : World) :
    Calls Tryz.prog 45 #[nodeV ⟨1, p, v, x, y⟩] w fun e w' => e = .returned (.tuple #[.string (S []), .int .i64 3]) ∧ Below w.heap.size w w' := by
  have hk1 := fun w => risPath_any p w hpl
  rw [hp] at hk1
  have hsv := S_size v
  unfold nodeV
  go_enter Tryz.func45, Tryz.ntmps45
  go_wp2_with (first | (go_at_call 47; refine (hk1 _).mono ?_; rintro e w' ⟨rfl, rfl⟩) | (go_at_call 48; refine (ris32_any _ _).mono ?_; rintro e w' ⟨rfl, rfl⟩))
  go_ret2
  exact ⟨rfl, (Below.refl _ w).alloc (Nat.le_refl _) _⟩

set_option maxRecDepth 20000 in
set_option maxHeartbeats 1000000 in
theorem renc_branch_v (p v : List UInt8) (x y : Int) (hpl : p.length ≤ 9223372036854775807) (hp : isPb p = true) (hv : ¬ (S v).toList = []) (w : World) :
    Calls Tryz.prog 45 #[nodeV ⟨1, p, v, x, y⟩] w fun e w' => e = .returned (.tuple #[.string (S []), .int .i64 3]) ∧ Below w.heap.size w w' := by
  have hk1 := fun w => risPath_any p w hpl
  rw [hp] at hk1
  have hsv := S_size v
  unfold nodeV
  go_enter Tryz.func45, Tryz.ntmps45
  go_wp2_with (first | (go_at_call 47; refine (hk1 _).mono ?_; rintro e w' ⟨rfl, rfl⟩) | (go_at_call 48; refine (ris32_any _ _).mono ?_; rintro e w' ⟨rfl, rfl⟩))
  go_ret2
  exact ⟨rfl, (Below.refl _ w).alloc (Nat.le_refl _) _⟩

set_option maxRecDepth 20000 in
set_option maxHeartbeats 1000000 in
theorem renc_branch_xy (p : List UInt8) (x y : Int) (hpl : p.length ≤ 9223372036854775807) (hp : isPb p = true) (hxy : ¬ (is32 x = true ∧ is32 y = true)) (w : World) :
    Calls Tryz.prog 45 #[nodeV ⟨1, p, [], x, y⟩] w fun e w' => e = .returned (.tuple #[.string (S []), .int .i64 3]) ∧ Below w.heap.size w w' := by
  have hk1 := fun w => risPath_any p w hpl
  have hk2 := fun w => ris32_any x w
  have hk3 := fun w => ris32_any y w
  rw [hp] at hk1
  have hse : (S []).toList = [] := by rw [Lib.toList_data, S_list]
  have hs0 := S_size []
  unfold nodeV
  generalize is32 x = bx at *
  generalize is32 y = bz at *
  go_enter Tryz.func45, Tryz.ntmps45
  go_wp2_with fail
  refine (hk1 _).mono ?_
  rintro e w' ⟨rfl, rfl⟩
  go_wp2_with fail
  refine (hk2 _).mono ?_
  rintro e w' ⟨rfl, rfl⟩
  go_wp2_with fail
  refine (hk3 _).mono ?_
  rintro e w' ⟨rfl, rfl⟩
  cases bx with
  | false =>
    clear hxy
    go_wp2
    go_ret2
    exact ⟨rfl, (Below.refl _ w).alloc (Nat.le_refl _) _⟩
  | true =>
    cases bz with
    | false =>
      clear hxy
      go_wp2
      go_ret2
      exact ⟨rfl, (Below.refl _ w).alloc (Nat.le_refl _) _⟩
    | true => exact absurd ⟨rfl, rfl⟩ hxy

set_option maxRecDepth 20000 in
set_option maxHeartbeats 1000000 in
theorem renc_empty_p (p v : List UInt8) (x y : Int) (hpl : p.length ≤ 9223372036854775807) (hp : ¬ (S p).toList = []) (w : World) :
    Calls Tryz.prog 45 #[nodeV ⟨2, p, v, x, y⟩] w fun e w' => e = .returned (.tuple #[.string (S []), .int .i64 3]) ∧ Below w.heap.size w w' := by
  have hk1 := fun w => risPath_any p w hpl
  have hsv := S_size v
  unfold nodeV
  go_enter Tryz.func45, Tryz.ntmps45
  go_wp2_with (first | (go_at_call 47; refine (hk1 _).mono ?_; rintro e w' ⟨rfl, rfl⟩) | (go_at_call 48; refine (ris32_any _ _).mono ?_; rintro e w' ⟨rfl, rfl⟩))
  go_ret2
  exact ⟨rfl, (Below.refl _ w).alloc (Nat.le_refl _) _⟩

set_option maxRecDepth 20000 in
set_option maxHeartbeats 1000000 in
theorem renc_empty_v (v : List UInt8) (x y : Int) (hv : ¬ (S v).toList = []) (w : World) :
    Calls Tryz.prog 45 #[nodeV ⟨2, [], v, x, y⟩] w fun e w' => e = .returned (.tuple #[.string (S []), .int .i64 3]) ∧ Below w.heap.size w w' := by
  have hk1 := fun w => risPath_any [] w (by simp)
  have hsv := S_size v
  have hse : (S []).toList = [] := by rw [Lib.toList_data, S_list]
  have hs0 := S_size []
  unfold nodeV
  go_enter Tryz.func45, Tryz.ntmps45
  go_wp2_with (first | (go_at_call 47; refine (hk1 _).mono ?_; rintro e w' ⟨rfl, rfl⟩) | (go_at_call 48; refine (ris32_any _ _).mono ?_; rintro e w' ⟨rfl, rfl⟩))
  go_ret2
  exact ⟨rfl, (Below.refl _ w).alloc (Nat.le_refl _) _⟩

set_option maxRecDepth 20000 in
set_option maxHeartbeats 1000000 in
theorem renc_empty_x (x y : Int) (hx : ¬ x = 0) (w : World) :
    Calls Tryz.prog 45 #[nodeV ⟨2, [], [], x, y⟩] w fun e w' => e = .returned (.tuple #[.string (S []), .int .i64 3]) ∧ Below w.heap.size w w' := by
  have hk1 := fun w => risPath_any [] w (by simp)
  have hse : (S []).toList = [] := by rw [Lib.toList_data, S_list]
  have hs0 := S_size []
  unfold nodeV
  go_enter Tryz.func45, Tryz.ntmps45
  go_wp2_with (first | (go_at_call 47; refine (hk1 _).mono ?_; rintro e w' ⟨rfl, rfl⟩) | (go_at_call 48; refine (ris32_any _ _).mono ?_; rintro e w' ⟨rfl, rfl⟩))
  go_ret2
  exact ⟨rfl, (Below.refl _ w).alloc (Nat.le_refl _) _⟩

set_option maxRecDepth 20000 in
set_option maxHeartbeats 1000000 in
theorem renc_empty_y (y : Int) (hy : ¬ y = 0) (w : World) :
    Calls Tryz.prog 45 #[nodeV ⟨2, [], [], 0, y⟩] w fun e w' => e = .returned (.tuple #[.string (S []), .int .i64 3]) ∧ Below w.heap.size w w' := by
  have hk1 := fun w => risPath_any [] w (by simp)
  have hse : (S []).toList = [] := by rw [Lib.toList_data, S_list]
  have hs0 := S_size []
  unfold nodeV
  go_enter Tryz.func45, Tryz.ntmps45
  go_wp2_with (first | (go_at_call 47; refine (hk1 _).mono ?_; rintro e w' ⟨rfl, rfl⟩) | (go_at_call 48; refine (ris32_any _ _).mono ?_; rintro e w' ⟨rfl, rfl⟩))
  go_ret2
  exact ⟨rfl, (Below.refl _ w).alloc (Nat.le_refl _) _⟩

set_option maxRecDepth 20000 in
set_option maxHeartbeats 1000000 in
theorem renc_empty (w : World) :
    Calls Tryz.prog 45 #[nodeV empty] w fun e w' => e = .returned (.tuple #[.string (S [2]), .int .i64 0]) ∧ Below w.heap.size w w' := by
  have hk1 := fun w => risPath_any [] w (by simp)
  have hse : (S []).toList = [] := by rw [Lib.toList_data, S_list]
  have hs0 := S_size []
  unfold nodeV empty
  go_enter Tryz.func45, Tryz.ntmps45
  go_wp2_with (first | (go_at_call 47; refine (hk1 _).mono ?_; rintro e w' ⟨rfl, rfl⟩) | (go_at_call 48; refine (ris32_any _ _).mono ?_; rintro e w' ⟨rfl, rfl⟩))
  go_ret2
  exact ⟨rfl, (Below.refl _ w).alloc (Nat.le_refl _) _⟩
end Go.Proofs.YtddcbeeldjjmeaaGreatDoor.Tw
