/- The law Back: paths and nodes out of raw numbers. -/
import Derived.Test.YtddcbeeldjjmeaaGreatDoorBack1
namespace Go.Proofs.YtddcbeeldjjmeaaGreatDoor.Tw
open Go.RowKit Go.Proofs.YtddcbeeldjjmeaaGreatDoor.Pu
set_option linter.unusedVariables false
set_option linter.unusedSimpArgs false

theorem S_snoc (l : List UInt8) (c : UInt8) : S l ++ S [c] = S (l ++ [c]) := by
  apply ByteArray.ext
  simp [S, ByteArray.data_append]

theorem tdiv_bd (v k : Int) (hk : 2 ≤ k) (h0 : -9223372036854775808 ≤ v) (h1 : v ≤ 9223372036854775807) : -9223372036854775808 ≤ v.tdiv k ∧ v.tdiv k ≤ 9223372036854775807 := by
  have h : (v.tdiv k).natAbs = v.natAbs / k.natAbs := Int.natAbs_tdiv v k
  have h2 : v.natAbs / k.natAbs ≤ v.natAbs / 2 := Nat.div_le_div_left (by omega) (by omega)
  omega

set_option maxHeartbeats 400000 in
theorem kpath_any (v : Int) (w : World) (h0 : -9223372036854775808 ≤ v) (h1 : v ≤ 9223372036854775807) :
    Calls Tryz.prog 59 #[.int .i64 v] w fun e w' => ∃ s, e = .returned (.string (S s)) ∧ isP s ∧ w' = w := by
  have hk := fun w => pick_any v 38 w h0 h1 (by omega) (by omega)
  have hn := pickN_lt v 38 (by omega)
  generalize pickN v 38 = n at hk hn
  go_enter Tryz.func59, Tryz.ntmps59
  go_wp2_with fail
  refine (hk _).mono ?_
  rintro e w' ⟨rfl, rfl⟩
  go_wp2_with fail
  go_loop [4, 5] (fun s i => ∃ (l : List UInt8), l.length ≤ n ∧ i = .int .i64 l.length ∧ s = .string (S l) ∧ ∀ c, c ∈ l → c = 48 ∨ c = 49) (fun _ i => (n - intOf i).toNat)
  case atStart => exact ⟨[], by simp, rfl, rfl, by simp⟩
  case round =>
    obtain ⟨l, hl, rfl, rfl, hc⟩ := hrel
    by_cases hlt : l.length < n
    · have hz : ((l.length : Int) + 3 == 0) = false := by simp; omega
      have hd0 : -9223372036854775808 ≤ v.tdiv (l.length + 3) := (tdiv_bd v _ (by omega) h0 h1).1
      have hd1 : v.tdiv (l.length + 3) ≤ 9223372036854775807 := (tdiv_bd v _ (by omega) h0 h1).2
      have hk2 := fun w => pick_any (v.tdiv (l.length + 3)) 2 w hd0 hd1 (by omega) (by omega)
      have hp2 := pickN_lt (v.tdiv (l.length + 3)) 2 (by omega)
      have hss : (S l).size + 1 ≤ 9223372036854775807 := by rw [S_size]; omega
      have e0 := S_snoc l 48
      have e1 := S_snoc l 49
      generalize pickN (v.tdiv (l.length + 3)) 2 = q at hk2 hp2
      obtain rfl | rfl : q = 0 ∨ q = 1 := by omega
      · go_wp2_with fail
        refine (hk2 _).mono ?_
        rintro e w'' ⟨rfl, rfl⟩
        go_wp2
        go_round
        case rel => exact ⟨l ++ [48], by simp; omega, by simp, by rw [← e0]; rfl, fun c h => by simp at h; rcases h with h | h; exact hc c h; exact Or.inl h⟩
        case measure => simp [intOf]; omega
      · go_wp2_with fail
        refine (hk2 _).mono ?_
        rintro e w'' ⟨rfl, rfl⟩
        go_wp2
        go_round
        case rel => exact ⟨l ++ [49], by simp; omega, by simp, by rw [← e1]; rfl, fun c h => by simp at h; rcases h with h | h; exact hc c h; exact Or.inr h⟩
        case measure => simp [intOf]; omega
    · go_wp2
      go_ret
      exact ⟨_, rfl, ⟨hc, by omega⟩, rfl⟩
end Go.Proofs.YtddcbeeldjjmeaaGreatDoor.Tw
