/- Manifests that have no bytes: the program's check. -/
import Derived.Test.YtddcbeeldjjmeaaGreatDoorMan
import Derived.Test.YtddcbeeldjjmeaaGreatDoorItoaC
namespace Go.Proofs.YtddcbeeldjjmeaaGreatDoor.Tw
open Go.RowKit Go.Proofs.YtddcbeeldjjmeaaGreatDoor.Pu
set_option linter.unusedVariables false
set_option linter.unusedSimpArgs false

set_option maxRecDepth 20000 in
set_option maxHeartbeats 1000000 in
theorem checkM_width (A : Nat → Addr) (B : Nat) (wd rt sz tt : Int) (v : Value) (w : World) (hS : Sents A B w) (h : ¬ (1 ≤ wd ∧ wd ≤ 32)) :
    Calls Tryz.prog 108 #[.agg #[.int .i64 wd, .int .i64 rt, .int .i64 sz, .int .i64 tt, v]] w fun e w' => ∃ t x, e = .returned (.iface t x) ∧ NoB A (.iface t x) ∧ Below w.heap.size w w' := by
  have hk1 := fun w => width_bound wd false w (by simp; omega)
  have hvw : ∀ (o : Obj), (w.alloc o).cell? ⟨0, 0, none⟩ = some (.iface 423 (.pointer (some (A 0)))) := fun o => (hS.to ((Below.refl B w).alloc hS.size o)).all.1
  have hvwn : ∀ (o : Obj) (n : Nat), ((w.alloc o).drewN n).cell? ⟨0, 0, none⟩ = some (.iface 423 (.pointer (some (A 0)))) := fun o n => hvw o
  have hvw0 := hS.all.1
  have hlow := hS.lowg 0 (by decide)
  have hsz0 := hS.size
  have hnob : NoB A (.iface 423 (.pointer (some (A 0)))) := NoB.base
  clear h
  go_enter Tryz.func108, Tryz.ntmps108
  go_wp2_with (first | (go_at_call 78; refine (hk1 _).mono ?_; rintro e w' ⟨rfl, rfl⟩) | (go_at_call 100; refine (at_nob (A := A) _ _ _ hnob).mono ?_; rintro e w' ⟨t', x', rfl, hbad', rfl⟩))
  go_ret
  exact ⟨_, _, rfl, hbad', (Below.refl _ w).alloc (Nat.le_refl _) _⟩

set_option maxRecDepth 20000 in
set_option maxHeartbeats 1000000 in
theorem checkM_root (A : Nat → Addr) (B : Nat) (k : Nat) (rt sz tt : Int) (v : Value) (w : World) (hS : Sents A B w) (h1 : 1 ≤ k) (h2 : k ≤ 32) (h : okD k rt = false) :
    Calls Tryz.prog 108 #[.agg #[.int .i64 k, .int .i64 rt, .int .i64 sz, .int .i64 tt, v]] w fun e w' => ∃ t x, e = .returned (.iface t x) ∧ NoB A (.iface t x) ∧ Below w.heap.size w w' := by
  have hk1 := fun w => width_bound (k : Int) true w (by simp; omega)
  have hk2 := fun w => digest_bound k h1 h2 rt false w h.symm
  have hvw : ∀ (o : Obj), (w.alloc o).cell? ⟨0, 0, none⟩ = some (.iface 423 (.pointer (some (A 0)))) := fun o => (hS.to ((Below.refl B w).alloc hS.size o)).all.1
  have hvwn : ∀ (o : Obj) (n : Nat), ((w.alloc o).drewN n).cell? ⟨0, 0, none⟩ = some (.iface 423 (.pointer (some (A 0)))) := fun o n => hvw o
  have hvw0 := hS.all.1
  have hlow := hS.lowg 0 (by decide)
  have hsz0 := hS.size
  have hnob : NoB A (.iface 423 (.pointer (some (A 0)))) := NoB.base
  clear h
  go_enter Tryz.func108, Tryz.ntmps108
  go_wp2_with (first | (go_at_call 78; refine (hk1 _).mono ?_; rintro e w' ⟨rfl, rfl⟩) | (go_at_call 162; refine (hk2 _).mono ?_; rintro e w' ⟨rfl, rfl⟩) | (go_at_call 100; refine (at_nob (A := A) _ _ _ hnob).mono ?_; rintro e w' ⟨t', x', rfl, hbad', rfl⟩))
  go_ret
  exact ⟨_, _, rfl, hbad', (Below.refl _ w).alloc (Nat.le_refl _) _⟩

set_option maxRecDepth 20000 in
set_option maxHeartbeats 1000000 in
theorem checkM_size (A : Nat → Addr) (B : Nat) (k : Nat) (rt sz tt : Int) (v : Value) (w : World) (hS : Sents A B w) (h1 : 1 ≤ k) (h2 : k ≤ 32) (h3 : okD k rt = true) (h : ¬ (8 ≤ sz ∧ sz ≤ 1000)) :
    Calls Tryz.prog 108 #[.agg #[.int .i64 k, .int .i64 rt, .int .i64 sz, .int .i64 tt, v]] w fun e w' => ∃ t x, e = .returned (.iface t x) ∧ NoB A (.iface t x) ∧ Below w.heap.size w w' := by
  have hk1 := fun w => width_bound (k : Int) true w (by simp; omega)
  have hk2 := fun w => digest_bound k h1 h2 rt true w h3.symm
  have hk3 := fun w => size_bound sz false w (by simp; omega)
  have hvw : ∀ (o : Obj), (w.alloc o).cell? ⟨0, 0, none⟩ = some (.iface 423 (.pointer (some (A 0)))) := fun o => (hS.to ((Below.refl B w).alloc hS.size o)).all.1
  have hvwn : ∀ (o : Obj) (n : Nat), ((w.alloc o).drewN n).cell? ⟨0, 0, none⟩ = some (.iface 423 (.pointer (some (A 0)))) := fun o n => hvw o
  have hvw0 := hS.all.1
  have hlow := hS.lowg 0 (by decide)
  have hsz0 := hS.size
  have hnob : NoB A (.iface 423 (.pointer (some (A 0)))) := NoB.base
  clear h h3
  go_enter Tryz.func108, Tryz.ntmps108
  go_wp2_with (first | (go_at_call 78; refine (hk1 _).mono ?_; rintro e w' ⟨rfl, rfl⟩) | (go_at_call 162; refine (hk2 _).mono ?_; rintro e w' ⟨rfl, rfl⟩) | (go_at_call 93; refine (hk3 _).mono ?_; rintro e w' ⟨rfl, rfl⟩) | (go_at_call 100; refine (at_nob (A := A) _ _ _ hnob).mono ?_; rintro e w' ⟨t', x', rfl, hbad', rfl⟩))
  go_ret
  exact ⟨_, _, rfl, hbad', (Below.refl _ w).alloc (Nat.le_refl _) _⟩

set_option maxRecDepth 20000 in
set_option maxHeartbeats 1000000 in
theorem checkM_total (A : Nat → Addr) (B : Nat) (k : Nat) (rt sz tt : Int) (v : Value) (w : World) (hS : Sents A B w) (h1 : 1 ≤ k) (h2 : k ≤ 32) (h3 : okD k rt = true) (h4 : 8 ≤ sz ∧ sz ≤ 1000) (h : ¬ (1 ≤ tt ∧ tt ≤ 100000)) :
    Calls Tryz.prog 108 #[.agg #[.int .i64 k, .int .i64 rt, .int .i64 sz, .int .i64 tt, v]] w fun e w' => ∃ t x, e = .returned (.iface t x) ∧ NoB A (.iface t x) ∧ Below w.heap.size w w' := by
  have hk1 := fun w => width_bound (k : Int) true w (by simp; omega)
  have hk2 := fun w => digest_bound k h1 h2 rt true w h3.symm
  have hk3 := fun w => size_bound sz true w (by simp; omega)
  have hk4 := fun w => total_bound tt false w (by simp; omega)
  have hvw : ∀ (o : Obj), (w.alloc o).cell? ⟨0, 0, none⟩ = some (.iface 423 (.pointer (some (A 0)))) := fun o => (hS.to ((Below.refl B w).alloc hS.size o)).all.1
  have hvwn : ∀ (o : Obj) (n : Nat), ((w.alloc o).drewN n).cell? ⟨0, 0, none⟩ = some (.iface 423 (.pointer (some (A 0)))) := fun o n => hvw o
  have hvw0 := hS.all.1
  have hlow := hS.lowg 0 (by decide)
  have hsz0 := hS.size
  have hnob : NoB A (.iface 423 (.pointer (some (A 0)))) := NoB.base
  clear h h3
  go_enter Tryz.func108, Tryz.ntmps108
  go_wp2_with (first | (go_at_call 78; refine (hk1 _).mono ?_; rintro e w' ⟨rfl, rfl⟩) | (go_at_call 162; refine (hk2 _).mono ?_; rintro e w' ⟨rfl, rfl⟩) | (go_at_call 93; refine (hk3 _).mono ?_; rintro e w' ⟨rfl, rfl⟩) | (go_at_call 143; refine (hk4 _).mono ?_; rintro e w' ⟨rfl, rfl⟩) | (go_at_call 100; refine (at_nob (A := A) _ _ _ hnob).mono ?_; rintro e w' ⟨t', x', rfl, hbad', rfl⟩))
  go_ret
  exact ⟨_, _, rfl, hbad', (Below.refl _ w).alloc (Nat.le_refl _) _⟩

set_option maxRecDepth 20000 in
set_option maxHeartbeats 1000000 in
theorem checkM_count (A : Nat → Addr) (B : Nat) (k : Nat) (rt sz tt : Int) (p : Option Addr) (len cap : Nat) (w : World) (hS : Sents A B w) (h1 : 1 ≤ k) (h2 : k ≤ 32) (h3 : okD k rt = true) (h4 : 8 ≤ sz ∧ sz ≤ 1000) (h5 : 1 ≤ tt ∧ tt ≤ 100000) (h : ¬ (len : Int) = (tt + sz - 1) / sz) :
    Calls Tryz.prog 108 #[.agg #[.int .i64 k, .int .i64 rt, .int .i64 sz, .int .i64 tt, .slice p len cap]] w fun e w' => ∃ t x, e = .returned (.iface t x) ∧ NoB A (.iface t x) ∧ Below w.heap.size w w' := by
  have hk1 := fun w => width_bound (k : Int) true w (by simp; omega)
  have hk2 := fun w => digest_bound k h1 h2 rt true w h3.symm
  have hk3 := fun w => size_bound sz true w (by simp; omega)
  have hk4 := fun w => total_bound tt true w (by simp; omega)
  have hk5 := fun w => chunks_any tt sz w h4 h5
  generalize (tt + sz - 1) / sz = ch at hk5 h
  have hvw : ∀ (o : Obj), (w.alloc o).cell? ⟨0, 0, none⟩ = some (.iface 423 (.pointer (some (A 0)))) := fun o => (hS.to ((Below.refl B w).alloc hS.size o)).all.1
  have hvwn : ∀ (o : Obj) (n : Nat), ((w.alloc o).drewN n).cell? ⟨0, 0, none⟩ = some (.iface 423 (.pointer (some (A 0)))) := fun o n => hvw o
  have hvw0 := hS.all.1
  have hlow := hS.lowg 0 (by decide)
  have hsz0 := hS.size
  have hnob : NoB A (.iface 423 (.pointer (some (A 0)))) := NoB.base
  have hne : ((len : Int) == ch) = false := by simpa using h
  clear h h3
  go_enter Tryz.func108, Tryz.ntmps108
  go_wp2_with (first | (go_at_call 78; refine (hk1 _).mono ?_; rintro e w' ⟨rfl, rfl⟩) | (go_at_call 162; refine (hk2 _).mono ?_; rintro e w' ⟨rfl, rfl⟩) | (go_at_call 93; refine (hk3 _).mono ?_; rintro e w' ⟨rfl, rfl⟩) | (go_at_call 143; refine (hk4 _).mono ?_; rintro e w' ⟨rfl, rfl⟩))
  go_quiet ((go_at_call 163; exact Calls.quiet_of_same (hk5 _)))
  go_wp2_with (go_at_call 100; refine (at_nob (A := A) _ _ _ hnob).mono ?_; rintro e w' ⟨t', x', rfl, hbad', rfl⟩)
  go_ret
  exact ⟨_, _, rfl, hbad', below_drewN ((Below.refl _ w).alloc (Nat.le_refl _) _) _⟩

set_option maxRecDepth 20000 in
set_option maxHeartbeats 2000000 in
theorem checkM_dig (A : Nat → Addr) (B : Nat) (k : Nat) (rt sz tt : Int) (v : Value) (ds : List Int) (w : World) (hS : Sents A B w) (hT : Tab w) (hv : IRow w v ds) (h1 : 1 ≤ k) (h2 : k ≤ 32) (h3 : okD k rt = true) (h4 : 8 ≤ sz ∧ sz ≤ 1000) (h5 : 1 ≤ tt ∧ tt ≤ 100000) (h6 : (ds.length : Int) = (tt + sz - 1) / sz) (hl : (ds.length : Int) ≤ 100000) (h : ¬ ∀ d, d ∈ ds → okD k d = true) :
    Calls Tryz.prog 108 #[.agg #[.int .i64 k, .int .i64 rt, .int .i64 sz, .int .i64 tt, v]] w fun e w' => ∃ t x, e = .returned (.iface t x) ∧ NoB A (.iface t x) ∧ Below w.heap.size w w' := by
  have hk1 := fun w => width_bound (k : Int) true w (by simp; omega)
  have hk2 := fun w => digest_bound k h1 h2 rt true w h3.symm
  have hk3 := fun w => size_bound sz true w (by simp; omega)
  have hk4 := fun w => total_bound tt true w (by simp; omega)
  have hk5 := fun w => chunks_any tt sz w h4 h5
  rw [← h6] at hk5
  have hnob : NoB A (.iface 423 (.pointer (some (A 0)))) := NoB.base
  have hTl := hT.lt
  have hBs := hS.size
  obtain ⟨p, cap, rfl, hc⟩ := hv
  have HN : Hid _ := h
  clear h h3 h6
  go_enter Tryz.func108, Tryz.ntmps108
  go_wp2_with (first | (go_at_call 78; refine (hk1 _).mono ?_; rintro e w' ⟨rfl, rfl⟩) | (go_at_call 162; refine (hk2 _).mono ?_; rintro e w' ⟨rfl, rfl⟩) | (go_at_call 93; refine (hk3 _).mono ?_; rintro e w' ⟨rfl, rfl⟩) | (go_at_call 143; refine (hk4 _).mono ?_; rintro e w' ⟨rfl, rfl⟩))
  go_quiet ((go_at_call 163; exact Calls.quiet_of_same (hk5 _)))
  go_wp2_with fail
  go_loopw [3, 4, 50] (fun _ _ i wr => ∃ j : Nat, j ≤ ds.length ∧ i = .int .i64 j ∧ C5 w.heap.size (.int .i64 k) (.int .i64 rt) (.int .i64 sz) (.int .i64 tt) (.slice p ds.length cap) wr ∧ Below w.heap.size w wr ∧ Hid (∀ (i : Nat) (h : i < ds.length), i < j → okD k ds[i] = true)) (fun _ _ i _ => (ds.length - intOf i).toNat)
  case atStart =>
    refine ⟨0, by omega, rfl, ?_, ?_, fun i _ hi => absurd hi (Nat.not_lt_zero i)⟩
    · exact (C5.new w _ _ _ _ _ _)
    · exact below_drewN ((Below.refl _ w).alloc (Nat.le_refl _) _) _
  case round =>
    obtain ⟨j, hj, rfl, hc5, hb, hok⟩ := hrel
    by_cases hjn : j < ds.length
    · obtain ⟨a, rfl, hcell⟩ := hc j hjn
      have hcw : wr.cell? (a.add j) = some (.int .i64 ds[j]) := by rw [hb.cell (cell_lt hcell)]; exact hcell
      obtain ⟨q0, q1, q2, q3, q4⟩ := hc5
      cases hd : okD k ds[j] with
      | true =>
        have hk7 := fun w => digest_bound k h1 h2 ds[j] true w hd.symm
        have HD : Hid _ := hd
        clear hd
        go_wp2_with fail
        refine (hk7 _).mono ?_
        rintro e w' ⟨rfl, rfl⟩
        go_wp2_with fail
        go_roundw
        case rel =>
          refine ⟨j + 1, by omega, by go_num, ⟨q0, q1, q2, q3, q4⟩, hb, fun i hi hij => ?_⟩
          by_cases e : i = j
          · subst e; exact HD.out
          · exact hok.out i hi (by omega)
        case measure => simp [intOf]; omega
      | false =>
        have hk7 := fun w => digest_bound k h1 h2 ds[j] false w hd.symm
        have hSr := hS.to (hb.mono hBs)
        have hTr := hT.to hb hTl
        have hvr := hSr.all.1
        have hvd : ∀ (n : Nat), (wr.drewN n).cell? ⟨0, 0, none⟩ = some (.iface 423 (.pointer (some (A 0)))) := fun n => hvr
        clear hd
        go_wp2_with fail
        refine (hk7 _).mono ?_
        rintro e w' ⟨rfl, rfl⟩
        have hki := fun w hT => itoa_any (j : Int) w hT (by omega) (by omega)
        go_wp2_with fail
        clear hc hk1 hk2 hk3 hk4 hk5 hk7 HN hcell hcw hok q0 q1 q2 q3 q4
        go_region_with (first
          | (go_at_call 152; refine (hki _ (by first | exact hTr | exact hTr.drew)).mono ?_; rintro e w2 ⟨s, rfl, hs, hB2⟩; have hc2 := fun o => hB2.cell (p := ⟨0, o, none⟩) (by have := cell_lt hvr; simpa using this); have hss := catI { data := #[100, 105, 103, 101, 115, 116, 32] } s (by show 7 ≤ _; decide) (by omega))
          | (go_at_call 100; refine (at_nob (A := A) _ _ _ hnob).mono ?_; rintro e w' ⟨t', x', rfl, hbad', rfl⟩))
        all_goals
          first
            | (have hb2 := hb.trans (hB2.mono (by have := hb.size; simp; omega)))
            | (have hb2 := hb.drew.trans (hB2.mono (by have := hb.size; simp; omega)))
          clear hB2 hc2
          simp only [Exit.then, Exit.inBlock]
          repeat go_step
          go_ret
          exact ⟨_, _, rfl, hbad', by first | exact hb2 | exact hb2.drew⟩
    · obtain rfl : j = ds.length := by omega
      exfalso
      refine HN.out fun d hd => ?_
      obtain ⟨i, hi, rfl⟩ := List.mem_iff_getElem.1 hd
      exact hok.out i hi hi

/-- The check, where it finds something. -/
theorem checkM_no (A : Nat → Addr) (B : Nat) (m : Mf) (v : Value) (w : World) (hS : Sents A B w) (hT : Tab w) (hv : IRow w v m.digests) (h : okM m = false) :
    Calls Tryz.prog 108 #[manV m v] w fun e w' => ∃ t x, e = .returned (.iface t x) ∧ NoB A (.iface t x) ∧ Below w.heap.size w w' := by
  obtain ⟨wd, rt, sz, tt, ds⟩ := m
  have hno : ¬ _ := fun x => Bool.eq_false_iff.1 h ((okM_iff ⟨wd, rt, sz, tt, ds⟩).2 x)
  unfold manV
  simp only at hno hv ⊢
  by_cases h1 : 1 ≤ wd ∧ wd ≤ 32
  · obtain ⟨k, rfl⟩ : ∃ k : Nat, wd = k := ⟨wd.toNat, by omega⟩
    simp only [Int.toNat_natCast] at hno
    cases h2 : okD k rt with
    | false => exact checkM_root A B k rt sz tt v w hS (by omega) (by omega) h2
    | true =>
      by_cases h3 : 8 ≤ sz ∧ sz ≤ 1000
      · by_cases h4 : 1 ≤ tt ∧ tt ≤ 100000
        · by_cases h5 : (ds.length : Int) = (tt + sz - 1) / sz
          · have hl : (ds.length : Int) ≤ 100000 := by
              rw [h5]
              have h6 : (tt + sz - 1) / sz ≤ tt := by
                refine Int.ediv_le_of_le_mul (by omega) ?_
                have : tt * sz = tt + tt * (sz - 1) := by rw [Int.mul_sub, Int.mul_one]; omega
                have h2 : 1 * (sz - 1) ≤ tt * (sz - 1) := Int.mul_le_mul_of_nonneg_right h4.1 (by omega)
                omega
              omega
            exact checkM_dig A B k rt sz tt v ds w hS hT hv (by omega) (by omega) h2 h3 h4 h5 hl fun hd => hno ⟨h1, h2, h3, h4, h5, hd⟩
          · obtain ⟨p, cap, rfl, _⟩ := hv
            exact checkM_count A B k rt sz tt p ds.length cap w hS (by omega) (by omega) h2 h3 h4 h5
        · exact checkM_total A B k rt sz tt v w hS (by omega) (by omega) h2 h3 h4
      · exact checkM_size A B k rt sz tt v w hS (by omega) (by omega) h2 h3
  · exact checkM_width A B wd rt sz tt v w hS h1
end Go.Proofs.YtddcbeeldjjmeaaGreatDoor.Tw
