/- A proof checked, and written: the program's, where it has bytes. -/
import Derived.Test.YtddcbeeldjjmeaaGreatDoorPrf2
namespace Go.Proofs.YtddcbeeldjjmeaaGreatDoor.Tw
open Go.RowKit Go.Proofs.YtddcbeeldjjmeaaGreatDoor.Pu
set_option linter.unusedVariables false
set_option linter.unusedSimpArgs false

set_option maxRecDepth 20000 in
set_option maxHeartbeats 4000000 in
theorem checkP_ok (p : Pf) (v : Value) (b : List UInt8) (w : World) (hv : URow w v p.ups) (hn : encN p.bottom = some b) (h : okUs p.ups = true) :
    Calls Tryz.prog 99 #[prfV p v] w fun e w' => e = .returned .nilIface ∧ Below w.heap.size w w' := by
  obtain ⟨m, us⟩ := p
  simp only at hv hn h
  obtain ⟨hl, hu⟩ := (okUs_iff us).1 h
  have hnn := neq_nil
  have hk1 := fun w => check_ok m b w hn
  have hk2 := fun w => steps_bound (us.length : Int) true w (by simp; omega)
  obtain ⟨p, cap, rfl, hc⟩ := hv
  have hq0 := C6.new w (.int .i64 m.kind) (.string (S m.path)) (.string (S m.value)) (.int .i64 m.left) (.int .i64 m.right) (.slice p us.length cap) 26
  have hb0 := (Below.refl w.heap.size w).alloc (Nat.le_refl _) (.cells #[.int .i64 m.kind, .string (S m.path), .string (S m.value), .int .i64 m.left, .int .i64 m.right, .slice p us.length cap] 26)
  clear h hn
  unfold prfV
  unfold nodeV at hk1
  simp only
  go_enter Tryz.func99, Tryz.ntmps99
  go_wp2_with fail
  refine (hk1 _).mono ?_
  rintro e w1 ⟨rfl, hb1⟩
  have hq1 := hq0.below hb1 (by simp)
  have hbx := hb0.trans (hb1.mono (by simp))
  have hlt : w.heap.size < w1.heap.size := by have := hb1.size; simp at this; omega
  clear hb1 hb0 hq0 hk1
  have hq1' := hq1
  obtain ⟨q0, q1, q2, q3, q4, q5⟩ := hq1'
  go_wp2_with fail
  refine (hk2 _).mono ?_
  rintro e w' ⟨rfl, rfl⟩
  go_wp2_with fail
  clear hk2 q0 q1 q2 q3 q4 q5
  go_loopw [4, 5, 6, 25] (fun _ _ _ i wr => ∃ j : Nat, j ≤ us.length ∧ i = .int .i64 j ∧ Below w.heap.size w wr) (fun _ _ _ i _ => (us.length - intOf i).toNat)
  case atStart => exact ⟨0, by omega, rfl, hbx⟩
  case round =>
    obtain ⟨j, hj, rfl, hb⟩ := hrel
    by_cases hjn : j < us.length
    · obtain ⟨a, rfl, hcell0, hcell1, hcell2⟩ := hc j hjn
      have hcw0 : wr.cell? (a.add (j * 3)) = some (.int .i64 us[j].side) := by rw [hb.cell (cell_lt hcell0)]; exact hcell0
      have hcw1 : wr.cell? ⟨(a.add (j * 3)).block, (a.add (j * 3)).off + 1, none⟩ = some (.string (S us[j].path)) := by rw [hb.cell (cell_lt hcell1)]; exact hcell1
      have hcw2 : wr.cell? ⟨(a.add (j * 3)).block, (a.add (j * 3)).off + 2, none⟩ = some (.int .i64 us[j].other) := by rw [hb.cell (cell_lt hcell2)]; exact hcell2
      have huj := hu us[j] (List.getElem_mem hjn)
      generalize us[j] = u at hcw0 hcw1 hcw2 huj
      obtain ⟨us1, us2, us3⟩ := (okU_iff u).1 huj
      have hP := (isPb_iff _).1 us2
      have hk5 := fun w => checkUp_ok u w (by have := hP.2; omega) huj
      have hbn := (Below.refl wr.heap.size wr).alloc (Nat.le_refl _) (.cells #[.int .i64 u.side, .string (S u.path), .int .i64 u.other] 28)
      unfold upV at hk5
      clear hcell0 hcell1 hcell2 us3 us2 huj hc
      go_wp2_with fail
      refine (hk5 _).mono ?_
      rintro e w5 ⟨rfl, hb5⟩
      have hbr := hbn.trans (hb5.mono (by simp))
      have hb55 := hb.trans (hbr.mono hb.size)
      clear hbn hb5 hk5 hbr hb hcw0 hcw1 hcw2
      go_wp2_with fail
      go_roundw
      case rel => exact ⟨j + 1, by omega, by go_num, hb55⟩
      case measure => simp [intOf]; omega
    · obtain rfl : j = us.length := by omega
      go_wp2
      go_ret
      exact ⟨rfl, hb⟩

set_option maxHeartbeats 1000000 in
theorem wencP_ok (p : Pf) (v : Value) (b : List UInt8) (w : World) (hv : URow w v p.ups) (hn : encN p.bottom = some b) (h : okUs p.ups = true) :
    Calls Tryz.prog 43 #[prfV p v] w fun e w' => e = .returned (.tuple #[.string (S (prfB b p.ups)), .nilIface]) ∧ Below w.heap.size w w' := by
  have hk1 := fun w hv => checkP_ok p v b w hv hn h
  have hk2 := fun w hv => wproof_ok p v b w hv hn h
  have hv0 : ∀ o, URow (w.alloc o) v p.ups := fun o => hv.to ((Below.refl _ w).alloc (Nat.le_refl _) _)
  have hnn := neq_nil
  clear h hn
  unfold prfV at hk1 hk2 ⊢
  go_enter Tryz.func43, Tryz.ntmps43
  go_wp2_with fail
  refine (hk1 _ (hv0 _)).mono ?_
  rintro e w1 ⟨rfl, hb1⟩
  have hc6 := (C6.new w (.int .i64 p.bottom.kind) (.string (S p.bottom.path)) (.string (S p.bottom.value)) (.int .i64 p.bottom.left) (.int .i64 p.bottom.right) v 26).below hb1 (by simp)
  have hbx := ((Below.refl _ w).alloc (Nat.le_refl _) _).trans (hb1.mono (by simp))
  have hv1 := hv.to hbx
  clear hb1 hk1 hv0
  obtain ⟨q0, q1, q2, q3, q4, q5⟩ := hc6
  go_wp2_with fail
  refine (hk2 _ hv1).mono ?_
  rintro e w2 ⟨rfl, hb2⟩
  have hby := hbx.trans (hb2.mono hbx.size)
  clear hb2 hbx hk2
  go_wp2
  go_ret2
  exact ⟨rfl, hby⟩
end Go.Proofs.YtddcbeeldjjmeaaGreatDoor.Tw
