/- Which nodes have bytes: the program's look. -/
import Derived.Test.YtddcbeeldjjmeaaGreatDoorEnc
import Derived.Test.YtddcbeeldjjmeaaGreatDoorNode
import Derived.RegionTactic
namespace Go.Proofs.YtddcbeeldjjmeaaGreatDoor.Tw
open Go.RowKit Go.Proofs.YtddcbeeldjjmeaaGreatDoor.Pu
set_option linter.unusedVariables false
set_option linter.unusedSimpArgs false

theorem four_bound (n : Int) (b : Bool) (w : World) (h : b = is32 n) :
    Calls Tryz.prog 158 #[.int .i64 n] w fun e w' => e = .returned (.bool b) ∧ w' = w := by
  have hk := within_any n 0 4294967295 w (by omega)
  have e : decide (0 ≤ n ∧ n ≤ 4294967295) = b := by rw [h]; unfold is32; apply decide_eq_decide.2; omega
  rw [e] at hk
  clear h e
  go_enter Tryz.func158, Tryz.ntmps158
  go_wp2_with (go_at_call 131; refine hk.mono ?_; rintro e w' ⟨rfl, rfl⟩)
  go_ret
  exact ⟨rfl, rfl⟩

theorem path_bound (s : List UInt8) (b : Bool) (w : World) (hl : s.length ≤ 9223372036854775807) (h : b = isPb s) :
    Calls Tryz.prog 157 #[.string (S s)] w fun e w' => e = .returned (.bool b) ∧ Below w.heap.size w w' := by
  have hss := S_size s
  by_cases h37 : s.length ≤ 37
  · have hk1 := fun w => bits_any (s.length : Int) true w (by simp; omega)
    have hk2 := fun w => trim_any (S s) w (by rw [S_size]; exact hl)
    rw [S_list] at hk2
    have hb : b = (S (Lib.trimS s [48, 49])).toList.isEmpty := by
      rw [h, Lib.toList_data, S_list, Bool.eq_iff_iff, List.isEmpty_iff, trimS_nil, isPb_iff]
      exact ⟨fun x => x.1, fun x => ⟨x, h37⟩⟩
    clear h
    generalize Lib.trimS s [48, 49] = q at *
    have HB : Hid _ := hb
    clear hb
    go_enter Tryz.func157, Tryz.ntmps157
    go_wp2_with fail
    refine (hk1 _).mono ?_
    rintro e w' ⟨rfl, rfl⟩
    go_wp2_with fail
    refine (hk2 _).mono ?_
    rintro e w1 ⟨rfl, hb1⟩
    go_wp2
    go_ret
    refine ⟨ret_bool ?_, hb1⟩
    rw [HB.out]
  · have hb : b = false := by
      rw [h]
      have : ¬ isP s := fun x => h37 x.2
      rw [← isPb_iff] at this
      simpa using this
    subst hb
    have hk1 := fun w => bits_any (s.length : Int) false w (by simp; omega)
    clear h
    go_enter Tryz.func157, Tryz.ntmps157
    go_wp2_with fail
    refine (hk1 _).mono ?_
    rintro e w' ⟨rfl, rfl⟩
    go_wp2
    go_ret
    exact ⟨rfl, Below.refl _ _⟩

set_option maxHeartbeats 1000000 in
theorem check_leaf (p v : List UInt8) (w : World) (hp : isPb p = true) (hpl : p.length ≤ 9223372036854775807) (hv : v.length ≤ 20) :
    Calls Tryz.prog 105 #[nodeV ⟨0, p, v, 0, 0⟩] w fun e w' => e = .returned .nilIface ∧ Below w.heap.size w w' := by
  have hvs := S_size v
  unfold nodeV
  go_enter Tryz.func105, Tryz.ntmps105
  go_wp2_with fail
  go_region
  go_wp2_with fail
  refine (path_bound p true _ hpl hp.symm).mono ?_
  rintro e w1 ⟨rfl, hb1⟩
  have hq := fun o => hb1.cell (p := ⟨w.heap.size, o, none⟩) (by simp; omega)
  have hbx := ((((Below.refl _ w).alloc (Nat.le_refl _) _).alloc (by simp) _).drew).trans (hb1.mono (by simp; omega))
  clear hb1
  go_wp2_with fail
  refine (length_any _ true _ (by simp; omega)).mono ?_
  rintro e w' ⟨rfl, rfl⟩
  go_wp2_with fail
  refine (four_bound _ true _ rfl).mono ?_
  rintro e w' ⟨rfl, rfl⟩
  go_wp2_with fail
  refine (four_bound _ true _ rfl).mono ?_
  rintro e w' ⟨rfl, rfl⟩
  go_wp2
  go_ret
  exact ⟨rfl, hbx⟩


set_option maxHeartbeats 1000000 in
theorem check_branch (p : List UInt8) (x y : Int) (w : World) (hp : isPb p = true) (hpl : p.length ≤ 9223372036854775807) (hx : is32 x = true) (hy : is32 y = true) :
    Calls Tryz.prog 105 #[nodeV ⟨1, p, [], x, y⟩] w fun e w' => e = .returned .nilIface ∧ Below w.heap.size w w' := by
  have hvs := S_size []
  have hse : (S []).toList = [] := by rw [Lib.toList_data, S_list]
  unfold nodeV
  go_enter Tryz.func105, Tryz.ntmps105
  go_wp2_with fail
  go_region
  go_wp2_with fail
  refine (path_bound p true _ hpl hp.symm).mono ?_
  rintro e w1 ⟨rfl, hb1⟩
  have hq := fun o => hb1.cell (p := ⟨w.heap.size, o, none⟩) (by simp; omega)
  have hbx := ((((Below.refl _ w).alloc (Nat.le_refl _) _).alloc (by simp) _).drew).trans (hb1.mono (by simp; omega))
  clear hb1
  go_wp2_with fail
  refine (length_any _ true _ rfl).mono ?_
  rintro e w' ⟨rfl, rfl⟩
  go_wp2_with fail
  refine (four_bound _ true _ hx.symm).mono ?_
  rintro e w' ⟨rfl, rfl⟩
  go_wp2_with fail
  refine (four_bound _ true _ hy.symm).mono ?_
  rintro e w' ⟨rfl, rfl⟩
  go_wp2
  go_ret
  exact ⟨rfl, hbx⟩


set_option maxHeartbeats 1000000 in
theorem check_empty (w : World) :
    Calls Tryz.prog 105 #[nodeV empty] w fun e w' => e = .returned .nilIface ∧ Below w.heap.size w w' := by
  have hvs := S_size []
  have hse : (S []).toList = [] := by rw [Lib.toList_data, S_list]
  unfold empty
  unfold nodeV
  go_enter Tryz.func105, Tryz.ntmps105
  go_wp2_with fail
  refine (path_bound [] true _ (by simp) rfl).mono ?_
  rintro e w1 ⟨rfl, hb1⟩
  have hq := fun o => hb1.cell (p := ⟨w.heap.size, o, none⟩) (by simp; omega)
  have hbx := (((Below.refl _ w).alloc (Nat.le_refl _) _).alloc (by simp) _).trans (hb1.mono (by simp; omega))
  clear hb1
  go_wp2_with fail
  refine (length_any _ true _ rfl).mono ?_
  rintro e w' ⟨rfl, rfl⟩
  go_wp2_with fail
  refine (four_bound _ true _ rfl).mono ?_
  rintro e w' ⟨rfl, rfl⟩
  go_wp2_with fail
  refine (four_bound _ true _ rfl).mono ?_
  rintro e w' ⟨rfl, rfl⟩
  go_wp2
  go_ret
  exact ⟨rfl, hbx⟩

set_option maxHeartbeats 1000000 in
theorem check_kind (A : Nat → Addr) (B : Nat) (k : Int) (p v : List UInt8) (x y : Int) (h0 : ¬ k = 0) (h1 : ¬ k = 1) (h2 : ¬ k = 2) (w : World) (hS : Sents A B w) :
    Calls Tryz.prog 105 #[nodeV ⟨k, p, v, x, y⟩] w fun e w' => ∃ t x, e = .returned (.iface t x) ∧ NoB A (.iface t x) ∧ Below w.heap.size w w' := by
  have hvv : ∀ o1 o2 : Obj, (((w.alloc o1).alloc o2).drew.cell? ⟨0, 0, none⟩ = some (.iface 423 (.pointer (some (A 0)))) ∧ ((w.alloc o1).alloc o2).cell? ⟨0, 0, none⟩ = some (.iface 423 (.pointer (some (A 0))))) := fun o1 o2 => by
    have h := (hS.to (((Below.refl B w).alloc hS.size o1).alloc (by have := hS.size; simp; omega) o2)).all.1
    exact ⟨h, h⟩
  have hvw := hS.all.1
  have hlow := hS.lowg 0 (by decide)
  have hsz0 := hS.size
  have hnob : NoB A (.iface 423 (.pointer (some (A 0)))) := NoB.base
  unfold nodeV
  go_enter Tryz.func105, Tryz.ntmps105
  go_wp2_with (go_at_call 100; refine (at_nob (A := A) _ _ _ hnob).mono ?_; rintro e w' ⟨t', x', rfl, hbad', rfl⟩)
  go_ret
  exact ⟨_, _, rfl, hbad', ((Below.refl _ w).alloc (Nat.le_refl _) _).alloc (by simp) _⟩

set_option maxHeartbeats 1000000 in
theorem check_leaf_x (A : Nat → Addr) (B : Nat) (p v : List UInt8) (x y : Int) (hx : ¬ x = 0) (w : World) (hS : Sents A B w) :
    Calls Tryz.prog 105 #[nodeV ⟨0, p, v, x, y⟩] w fun e w' => ∃ t x, e = .returned (.iface t x) ∧ NoB A (.iface t x) ∧ Below w.heap.size w w' := by
  have hvv : ∀ o1 o2 : Obj, (((w.alloc o1).alloc o2).drew.cell? ⟨0, 0, none⟩ = some (.iface 423 (.pointer (some (A 0)))) ∧ ((w.alloc o1).alloc o2).cell? ⟨0, 0, none⟩ = some (.iface 423 (.pointer (some (A 0))))) := fun o1 o2 => by
    have h := (hS.to (((Below.refl B w).alloc hS.size o1).alloc (by have := hS.size; simp; omega) o2)).all.1
    exact ⟨h, h⟩
  have hvw := hS.all.1
  have hlow := hS.lowg 0 (by decide)
  have hsz0 := hS.size
  have hnob : NoB A (.iface 423 (.pointer (some (A 0)))) := NoB.base
  unfold nodeV
  go_enter Tryz.func105, Tryz.ntmps105
  go_wp2_with fail
  go_region
  go_wp2_with (go_at_call 100; refine (at_nob (A := A) _ _ _ hnob).mono ?_; rintro e w' ⟨t', x', rfl, hbad', rfl⟩)
  go_ret
  exact ⟨_, _, rfl, hbad', (((Below.refl _ w).alloc (Nat.le_refl _) _).alloc (by simp) _).drew⟩

set_option maxHeartbeats 1000000 in
theorem check_leaf_y (A : Nat → Addr) (B : Nat) (p v : List UInt8) (y : Int) (hy : ¬ y = 0) (w : World) (hS : Sents A B w) :
    Calls Tryz.prog 105 #[nodeV ⟨0, p, v, 0, y⟩] w fun e w' => ∃ t x, e = .returned (.iface t x) ∧ NoB A (.iface t x) ∧ Below w.heap.size w w' := by
  have hvv : ∀ o1 o2 : Obj, (((w.alloc o1).alloc o2).drew.cell? ⟨0, 0, none⟩ = some (.iface 423 (.pointer (some (A 0)))) ∧ ((w.alloc o1).alloc o2).cell? ⟨0, 0, none⟩ = some (.iface 423 (.pointer (some (A 0))))) := fun o1 o2 => by
    have h := (hS.to (((Below.refl B w).alloc hS.size o1).alloc (by have := hS.size; simp; omega) o2)).all.1
    exact ⟨h, h⟩
  have hvw := hS.all.1
  have hlow := hS.lowg 0 (by decide)
  have hsz0 := hS.size
  have hnob : NoB A (.iface 423 (.pointer (some (A 0)))) := NoB.base
  unfold nodeV
  go_enter Tryz.func105, Tryz.ntmps105
  go_wp2_with fail
  go_region
  go_wp2_with (go_at_call 100; refine (at_nob (A := A) _ _ _ hnob).mono ?_; rintro e w' ⟨t', x', rfl, hbad', rfl⟩)
  go_ret
  exact ⟨_, _, rfl, hbad', (((Below.refl _ w).alloc (Nat.le_refl _) _).alloc (by simp) _).drew⟩

set_option maxHeartbeats 1000000 in
theorem check_leaf_p (A : Nat → Addr) (B : Nat) (p v : List UInt8) (hp : isPb p = false) (hpl : p.length ≤ 9223372036854775807) (w : World) (hS : Sents A B w) :
    Calls Tryz.prog 105 #[nodeV ⟨0, p, v, 0, 0⟩] w fun e w' => ∃ t x, e = .returned (.iface t x) ∧ NoB A (.iface t x) ∧ Below w.heap.size w w' := by
  have hnob : NoB A (.iface 423 (.pointer (some (A 0)))) := NoB.base
  unfold nodeV
  go_enter Tryz.func105, Tryz.ntmps105
  go_wp2_with fail
  go_region
  go_wp2_with fail
  refine (path_bound p false _ hpl hp.symm).mono ?_
  rintro e w1 ⟨rfl, hb1⟩
  have hq := fun o => hb1.cell (p := ⟨w.heap.size, o, none⟩) (by simp; omega)
  have hbx := ((((Below.refl _ w).alloc (Nat.le_refl _) _).alloc (by simp) _).drew).trans (hb1.mono (by simp; omega))
  clear hb1
  have hvv := (hS.to (hbx.mono hS.size)).all
  go_wp2_with fail
  refine (at_nob (A := A) _ _ _ hnob).mono ?_
  rintro e w' ⟨t', x', rfl, hbad', rfl⟩
  go_wp2
  go_ret
  exact ⟨_, _, rfl, hbad', hbx⟩

set_option maxHeartbeats 1000000 in
theorem check_leaf_v (A : Nat → Addr) (B : Nat) (p v : List UInt8) (hp : isPb p = true) (hpl : p.length ≤ 9223372036854775807) (hv : 20 < v.length) (w : World) (hS : Sents A B w) :
    Calls Tryz.prog 105 #[nodeV ⟨0, p, v, 0, 0⟩] w fun e w' => ∃ t x, e = .returned (.iface t x) ∧ NoB A (.iface t x) ∧ Below w.heap.size w w' := by
  have hvs := S_size v
  have hnob : NoB A (.iface 423 (.pointer (some (A 0)))) := NoB.base
  unfold nodeV
  go_enter Tryz.func105, Tryz.ntmps105
  go_wp2_with fail
  go_region
  go_wp2_with fail
  refine (path_bound p true _ hpl hp.symm).mono ?_
  rintro e w1 ⟨rfl, hb1⟩
  have hq := fun o => hb1.cell (p := ⟨w.heap.size, o, none⟩) (by simp; omega)
  have hbx := ((((Below.refl _ w).alloc (Nat.le_refl _) _).alloc (by simp) _).drew).trans (hb1.mono (by simp; omega))
  clear hb1
  have hvv := (hS.to (hbx.mono hS.size)).all
  go_wp2_with fail
  refine (length_any _ false _ (by simp; omega)).mono ?_
  rintro e w' ⟨rfl, rfl⟩
  go_wp2_with fail
  refine (at_nob (A := A) _ _ _ hnob).mono ?_
  rintro e w' ⟨t', x', rfl, hbad', rfl⟩
  go_wp2
  go_ret
  exact ⟨_, _, rfl, hbad', hbx⟩

set_option maxHeartbeats 1000000 in
theorem check_branch_v (A : Nat → Addr) (B : Nat) (p v : List UInt8) (x y : Int) (hv : ¬ (S v).toList = []) (w : World) (hS : Sents A B w) :
    Calls Tryz.prog 105 #[nodeV ⟨1, p, v, x, y⟩] w fun e w' => ∃ t x, e = .returned (.iface t x) ∧ NoB A (.iface t x) ∧ Below w.heap.size w w' := by
  have hvv : ∀ o1 o2 : Obj, (((w.alloc o1).alloc o2).drew.cell? ⟨0, 0, none⟩ = some (.iface 423 (.pointer (some (A 0)))) ∧ ((w.alloc o1).alloc o2).cell? ⟨0, 0, none⟩ = some (.iface 423 (.pointer (some (A 0))))) := fun o1 o2 => by
    have h := (hS.to (((Below.refl B w).alloc hS.size o1).alloc (by have := hS.size; simp; omega) o2)).all.1
    exact ⟨h, h⟩
  have hvw := hS.all.1
  have hlow := hS.lowg 0 (by decide)
  have hsz0 := hS.size
  have hnob : NoB A (.iface 423 (.pointer (some (A 0)))) := NoB.base
  unfold nodeV
  go_enter Tryz.func105, Tryz.ntmps105
  go_wp2_with fail
  go_region
  go_wp2_with (go_at_call 100; refine (at_nob (A := A) _ _ _ hnob).mono ?_; rintro e w' ⟨t', x', rfl, hbad', rfl⟩)
  go_ret
  exact ⟨_, _, rfl, hbad', (((Below.refl _ w).alloc (Nat.le_refl _) _).alloc (by simp) _).drew⟩

set_option maxHeartbeats 1000000 in
theorem check_branch_p (A : Nat → Addr) (B : Nat) (p : List UInt8) (x y : Int) (hp : isPb p = false) (hpl : p.length ≤ 9223372036854775807) (w : World) (hS : Sents A B w) :
    Calls Tryz.prog 105 #[nodeV ⟨1, p, [], x, y⟩] w fun e w' => ∃ t x, e = .returned (.iface t x) ∧ NoB A (.iface t x) ∧ Below w.heap.size w w' := by
  have hvs := S_size []
  have hse : (S []).toList = [] := by rw [Lib.toList_data, S_list]
  have hnob : NoB A (.iface 423 (.pointer (some (A 0)))) := NoB.base
  unfold nodeV
  go_enter Tryz.func105, Tryz.ntmps105
  go_wp2_with fail
  go_region
  go_wp2_with fail
  refine (path_bound p false _ hpl hp.symm).mono ?_
  rintro e w1 ⟨rfl, hb1⟩
  have hq := fun o => hb1.cell (p := ⟨w.heap.size, o, none⟩) (by simp; omega)
  have hbx := ((((Below.refl _ w).alloc (Nat.le_refl _) _).alloc (by simp) _).drew).trans (hb1.mono (by simp; omega))
  clear hb1
  have hvv := (hS.to (hbx.mono hS.size)).all
  go_wp2_with fail
  refine (at_nob (A := A) _ _ _ hnob).mono ?_
  rintro e w' ⟨t', x', rfl, hbad', rfl⟩
  go_wp2
  go_ret
  exact ⟨_, _, rfl, hbad', hbx⟩

set_option maxHeartbeats 1000000 in
theorem check_branch_x (A : Nat → Addr) (B : Nat) (p : List UInt8) (x y : Int) (hp : isPb p = true) (hpl : p.length ≤ 9223372036854775807) (hx : is32 x = false) (w : World) (hS : Sents A B w) :
    Calls Tryz.prog 105 #[nodeV ⟨1, p, [], x, y⟩] w fun e w' => ∃ t x, e = .returned (.iface t x) ∧ NoB A (.iface t x) ∧ Below w.heap.size w w' := by
  have hvs := S_size []
  have hse : (S []).toList = [] := by rw [Lib.toList_data, S_list]
  have hnob : NoB A (.iface 423 (.pointer (some (A 0)))) := NoB.base
  unfold nodeV
  go_enter Tryz.func105, Tryz.ntmps105
  go_wp2_with fail
  go_region
  go_wp2_with fail
  refine (path_bound p true _ hpl hp.symm).mono ?_
  rintro e w1 ⟨rfl, hb1⟩
  have hq := fun o => hb1.cell (p := ⟨w.heap.size, o, none⟩) (by simp; omega)
  have hbx := ((((Below.refl _ w).alloc (Nat.le_refl _) _).alloc (by simp) _).drew).trans (hb1.mono (by simp; omega))
  clear hb1
  have hvv := (hS.to (hbx.mono hS.size)).all
  go_wp2_with fail
  refine (length_any _ true _ rfl).mono ?_
  rintro e w' ⟨rfl, rfl⟩
  go_wp2_with fail
  refine (four_bound _ false _ hx.symm).mono ?_
  rintro e w' ⟨rfl, rfl⟩
  go_wp2_with fail
  refine (at_nob (A := A) _ _ _ hnob).mono ?_
  rintro e w' ⟨t', x', rfl, hbad', rfl⟩
  go_wp2
  go_ret
  exact ⟨_, _, rfl, hbad', hbx⟩

set_option maxHeartbeats 1000000 in
theorem check_branch_y (A : Nat → Addr) (B : Nat) (p : List UInt8) (x y : Int) (hp : isPb p = true) (hpl : p.length ≤ 9223372036854775807) (hx : is32 x = true) (hy : is32 y = false) (w : World) (hS : Sents A B w) :
    Calls Tryz.prog 105 #[nodeV ⟨1, p, [], x, y⟩] w fun e w' => ∃ t x, e = .returned (.iface t x) ∧ NoB A (.iface t x) ∧ Below w.heap.size w w' := by
  have hvs := S_size []
  have hse : (S []).toList = [] := by rw [Lib.toList_data, S_list]
  have hnob : NoB A (.iface 423 (.pointer (some (A 0)))) := NoB.base
  unfold nodeV
  go_enter Tryz.func105, Tryz.ntmps105
  go_wp2_with fail
  go_region
  go_wp2_with fail
  refine (path_bound p true _ hpl hp.symm).mono ?_
  rintro e w1 ⟨rfl, hb1⟩
  have hq := fun o => hb1.cell (p := ⟨w.heap.size, o, none⟩) (by simp; omega)
  have hbx := ((((Below.refl _ w).alloc (Nat.le_refl _) _).alloc (by simp) _).drew).trans (hb1.mono (by simp; omega))
  clear hb1
  have hvv := (hS.to (hbx.mono hS.size)).all
  go_wp2_with fail
  refine (length_any _ true _ rfl).mono ?_
  rintro e w' ⟨rfl, rfl⟩
  go_wp2_with fail
  refine (four_bound _ true _ hx.symm).mono ?_
  rintro e w' ⟨rfl, rfl⟩
  go_wp2_with fail
  refine (four_bound _ false _ hy.symm).mono ?_
  rintro e w' ⟨rfl, rfl⟩
  go_wp2_with fail
  refine (at_nob (A := A) _ _ _ hnob).mono ?_
  rintro e w' ⟨t', x', rfl, hbad', rfl⟩
  go_wp2
  go_ret
  exact ⟨_, _, rfl, hbad', hbx⟩

set_option maxHeartbeats 1000000 in
theorem check_empty_p (A : Nat → Addr) (B : Nat) (p v : List UInt8) (x y : Int) (hp : ¬ (S p).toList = []) (w : World) (hS : Sents A B w) :
    Calls Tryz.prog 105 #[nodeV ⟨2, p, v, x, y⟩] w fun e w' => ∃ t x, e = .returned (.iface t x) ∧ NoB A (.iface t x) ∧ Below w.heap.size w w' := by
  have hvv : ∀ o1 o2 : Obj, (((w.alloc o1).alloc o2).drew.cell? ⟨0, 0, none⟩ = some (.iface 423 (.pointer (some (A 0)))) ∧ ((w.alloc o1).alloc o2).cell? ⟨0, 0, none⟩ = some (.iface 423 (.pointer (some (A 0))))) := fun o1 o2 => by
    have h := (hS.to (((Below.refl B w).alloc hS.size o1).alloc (by have := hS.size; simp; omega) o2)).all.1
    exact ⟨h, h⟩
  have hvw := hS.all.1
  have hlow := hS.lowg 0 (by decide)
  have hsz0 := hS.size
  have hnob : NoB A (.iface 423 (.pointer (some (A 0)))) := NoB.base
  unfold nodeV
  go_enter Tryz.func105, Tryz.ntmps105
  go_wp2_with (go_at_call 100; refine (at_nob (A := A) _ _ _ hnob).mono ?_; rintro e w' ⟨t', x', rfl, hbad', rfl⟩)
  go_ret
  exact ⟨_, _, rfl, hbad', ((Below.refl _ w).alloc (Nat.le_refl _) _).alloc (by simp) _⟩

set_option maxHeartbeats 1000000 in
theorem check_empty_v (A : Nat → Addr) (B : Nat) (v : List UInt8) (x y : Int) (hv : ¬ (S v).toList = []) (w : World) (hS : Sents A B w) :
    Calls Tryz.prog 105 #[nodeV ⟨2, [], v, x, y⟩] w fun e w' => ∃ t x, e = .returned (.iface t x) ∧ NoB A (.iface t x) ∧ Below w.heap.size w w' := by
  have hvv : ∀ o1 o2 : Obj, (((w.alloc o1).alloc o2).drew.cell? ⟨0, 0, none⟩ = some (.iface 423 (.pointer (some (A 0)))) ∧ ((w.alloc o1).alloc o2).cell? ⟨0, 0, none⟩ = some (.iface 423 (.pointer (some (A 0))))) := fun o1 o2 => by
    have h := (hS.to (((Below.refl B w).alloc hS.size o1).alloc (by have := hS.size; simp; omega) o2)).all.1
    exact ⟨h, h⟩
  have hvw := hS.all.1
  have hlow := hS.lowg 0 (by decide)
  have hsz0 := hS.size
  have hvs := S_size []
  have hse : (S []).toList = [] := by rw [Lib.toList_data, S_list]
  have hnob : NoB A (.iface 423 (.pointer (some (A 0)))) := NoB.base
  unfold nodeV
  go_enter Tryz.func105, Tryz.ntmps105
  go_wp2_with (go_at_call 100; refine (at_nob (A := A) _ _ _ hnob).mono ?_; rintro e w' ⟨t', x', rfl, hbad', rfl⟩)
  go_ret
  exact ⟨_, _, rfl, hbad', ((Below.refl _ w).alloc (Nat.le_refl _) _).alloc (by simp) _⟩

set_option maxHeartbeats 1000000 in
theorem check_empty_x (A : Nat → Addr) (B : Nat) (x y : Int) (hx : ¬ x = 0) (w : World) (hS : Sents A B w) :
    Calls Tryz.prog 105 #[nodeV ⟨2, [], [], x, y⟩] w fun e w' => ∃ t x, e = .returned (.iface t x) ∧ NoB A (.iface t x) ∧ Below w.heap.size w w' := by
  have hvv : ∀ o1 o2 : Obj, (((w.alloc o1).alloc o2).drew.cell? ⟨0, 0, none⟩ = some (.iface 423 (.pointer (some (A 0)))) ∧ ((w.alloc o1).alloc o2).cell? ⟨0, 0, none⟩ = some (.iface 423 (.pointer (some (A 0))))) := fun o1 o2 => by
    have h := (hS.to (((Below.refl B w).alloc hS.size o1).alloc (by have := hS.size; simp; omega) o2)).all.1
    exact ⟨h, h⟩
  have hvw := hS.all.1
  have hlow := hS.lowg 0 (by decide)
  have hsz0 := hS.size
  have hvs := S_size []
  have hse : (S []).toList = [] := by rw [Lib.toList_data, S_list]
  have hnob : NoB A (.iface 423 (.pointer (some (A 0)))) := NoB.base
  unfold nodeV
  go_enter Tryz.func105, Tryz.ntmps105
  go_wp2_with (go_at_call 100; refine (at_nob (A := A) _ _ _ hnob).mono ?_; rintro e w' ⟨t', x', rfl, hbad', rfl⟩)
  go_ret
  exact ⟨_, _, rfl, hbad', ((Below.refl _ w).alloc (Nat.le_refl _) _).alloc (by simp) _⟩

set_option maxHeartbeats 1000000 in
theorem check_empty_y (A : Nat → Addr) (B : Nat) (y : Int) (hy : ¬ y = 0) (w : World) (hS : Sents A B w) :
    Calls Tryz.prog 105 #[nodeV ⟨2, [], [], 0, y⟩] w fun e w' => ∃ t x, e = .returned (.iface t x) ∧ NoB A (.iface t x) ∧ Below w.heap.size w w' := by
  have hvv : ∀ o1 o2 : Obj, (((w.alloc o1).alloc o2).drew.cell? ⟨0, 0, none⟩ = some (.iface 423 (.pointer (some (A 0)))) ∧ ((w.alloc o1).alloc o2).cell? ⟨0, 0, none⟩ = some (.iface 423 (.pointer (some (A 0))))) := fun o1 o2 => by
    have h := (hS.to (((Below.refl B w).alloc hS.size o1).alloc (by have := hS.size; simp; omega) o2)).all.1
    exact ⟨h, h⟩
  have hvw := hS.all.1
  have hlow := hS.lowg 0 (by decide)
  have hsz0 := hS.size
  have hvs := S_size []
  have hse : (S []).toList = [] := by rw [Lib.toList_data, S_list]
  have hnob : NoB A (.iface 423 (.pointer (some (A 0)))) := NoB.base
  unfold nodeV
  go_enter Tryz.func105, Tryz.ntmps105
  go_wp2_with (go_at_call 100; refine (at_nob (A := A) _ _ _ hnob).mono ?_; rintro e w' ⟨t', x', rfl, hbad', rfl⟩)
  go_ret
  exact ⟨_, _, rfl, hbad', ((Below.refl _ w).alloc (Nat.le_refl _) _).alloc (by simp) _⟩
end Go.Proofs.YtddcbeeldjjmeaaGreatDoor.Tw
