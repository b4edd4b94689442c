/- The law Back: rows of ints and of steps, held against each other. -/
import Derived.Test.YtddcbeeldjjmeaaGreatDoorMan
import Derived.Test.YtddcbeeldjjmeaaGreatDoorPrfU
import Derived.Deep.QuietTactic
import Derived.BigQuiet
namespace Go.Proofs.YtddcbeeldjjmeaaGreatDoor.Tw
open Go.RowKit Go.Proofs.YtddcbeeldjjmeaaGreatDoor.Pu
set_option linter.unusedVariables false
set_option linter.unusedSimpArgs false

set_option maxHeartbeats 1000000 in
theorem sameInts_ok (ds : List Int) (va vb : Value) (w : World) (ha : IRow w va ds) (hb : IRow w vb ds) (hl : ds.length ≤ 9223372036854775806) :
    Calls Tryz.prog 26 #[va, vb] w fun e w' => e = .returned (.bool true) ∧ ∃ n, w' = w.drewN n := by
  obtain ⟨pa, ca, rfl, ha⟩ := ha
  obtain ⟨pb, cb, rfl, hb⟩ := hb
  go_enter Tryz.func26, Tryz.ntmps26
  go_wp2_with fail
  go_loopw [5] (fun i wr => ∃ j : Nat, j ≤ ds.length ∧ i = .int .i64 j ∧ ∃ n, wr = w.drewN n) (fun i _ => (ds.length - intOf i).toNat)
  case atStart => exact ⟨0, by omega, rfl, 0, rfl⟩
  case round =>
    obtain ⟨j, hj, rfl, n, rfl⟩ := hrel
    by_cases hjn : j < ds.length
    · obtain ⟨a, rfl, hca⟩ := ha j hjn
      obtain ⟨b, rfl, hcb⟩ := hb j hjn
      clear ha hb
      go_wp2_with fail
      go_quiet (fail)
      go_wp2_with fail
      go_roundw
      case rel => exact ⟨j + 1, by omega, by go_num, _, rfl⟩
      case measure => simp [intOf]; omega
    · obtain rfl : j = ds.length := by omega
      go_wp2
      go_ret
      exact ⟨rfl, _, rfl⟩

set_option maxHeartbeats 1000000 in
theorem sameUps_ok (us : List Us) (va vb : Value) (w : World) (ha : URow w va us) (hb : URow w vb us) (hl : us.length ≤ 1000) :
    Calls Tryz.prog 22 #[va, vb] w fun e w' => e = .returned (.bool true) ∧ ∃ n, w' = w.drewN n := by
  obtain ⟨pa, ca, rfl, ha⟩ := ha
  obtain ⟨pb, cb, rfl, hb⟩ := hb
  go_enter Tryz.func22, Tryz.ntmps22
  go_wp2_with fail
  go_loopw [5] (fun i wr => ∃ j : Nat, j ≤ us.length ∧ i = .int .i64 j ∧ ∃ n, wr = w.drewN n) (fun i _ => (us.length - intOf i).toNat)
  case atStart => exact ⟨0, by omega, rfl, 0, rfl⟩
  case round =>
    obtain ⟨j, hj, rfl, n, rfl⟩ := hrel
    by_cases hjn : j < us.length
    · obtain ⟨a, rfl, ha0, ha1, ha2⟩ := ha j hjn
      obtain ⟨b, rfl, hb0, hb1, hb2⟩ := hb j hjn
      generalize us[j] = u at ha0 ha1 ha2 hb0 hb1 hb2
      clear ha hb
      go_wp2_with fail
      go_quiet (fail)
      go_wp2_with fail
      go_roundw
      case rel => exact ⟨j + 1, by omega, by go_num, _, rfl⟩
      case measure => simp [intOf]; omega
    · obtain rfl : j = us.length := by omega
      go_wp2
      go_ret
      exact ⟨rfl, _, rfl⟩
end Go.Proofs.YtddcbeeldjjmeaaGreatDoor.Tw
