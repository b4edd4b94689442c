/- The law Back: numbers out of raw ones. -/
import Derived.Test.YtddcbeeldjjmeaaGreatDoorErrs
import Derived.Test.YtddcbeeldjjmeaaGreatDoorPure
namespace Go.Proofs.YtddcbeeldjjmeaaGreatDoor.Tw
open Go.RowKit Go.Proofs.YtddcbeeldjjmeaaGreatDoor.Pu
set_option linter.unusedVariables false
set_option linter.unusedSimpArgs false

/-- Which of n things the raw number c speaks of. -/
def pickN (c : Int) (n : Nat) : Nat := (if c < 0 then -(c + 1) else c).toNat % n
theorem pickN_lt (c : Int) (n : Nat) (h : 0 < n) : pickN c n < n := Nat.mod_lt _ h
theorem pick_any (c : Int) (n : Nat) (w : World) (h0 : -9223372036854775808 ≤ c) (h1 : c ≤ 9223372036854775807) (hn : 0 < n) (hn2 : n ≤ 4294967296) :
    Calls Tryz.prog 34 #[.int .i64 c, .int .i64 n] w fun e w' => e = .returned (.int .i64 (pickN c n)) ∧ w' = w := by
  have hz : ((n : Int) == 0) = false := by simp; omega
  by_cases hc : c < 0
  · have e : (pickN c n : Int) = (-(c + 1)).tmod n := by
      unfold pickN
      rw [if_pos hc, Int.tmod_eq_emod_of_nonneg (by omega)]
      have h : (((-(c + 1)).toNat : Nat) : Int) = -(c + 1) := by omega
      rw [Int.natCast_emod, h]
    rw [e]
    go_enter Tryz.func34, Tryz.ntmps34
    go_wp2
    go_ret
    exact ⟨ret_int (Int.neg_tmod ..).symm, rfl⟩
  · have e : (pickN c n : Int) = c.tmod n := by
      unfold pickN
      rw [if_neg hc, Int.tmod_eq_emod_of_nonneg (by omega)]
      have h : (c.toNat : Int) = c := by omega
      rw [Int.natCast_emod, h]
    rw [e]
    go_enter Tryz.func34, Tryz.ntmps34
    go_wp2
    go_ret
    exact ⟨ret_int (Int.tmod_eq_emod_of_nonneg (by omega)).symm, rfl⟩
theorem word_any (c : Int) (w : World) (h0 : -9223372036854775808 ≤ c) (h1 : c ≤ 9223372036854775807) :
    Calls Tryz.prog 60 #[.int .i64 c] w fun e w' => e = .returned (.int .i64 (pickN c 4294967296)) ∧ w' = w := by
  have hk := pick_any c 4294967296 w h0 h1 (by omega) (by omega)
  go_enter Tryz.func60, Tryz.ntmps60
  go_wp2_with (go_at_call 34; refine hk.mono ?_; rintro e w' ⟨rfl, rfl⟩)
  go_ret
  exact ⟨rfl, rfl⟩
end Go.Proofs.YtddcbeeldjjmeaaGreatDoor.Tw
