/- The contracts of the functions that a digest is worked. -/
import Derived.Test.YtddcbeeldjjmeaaGreatProg
import Derived.Test.YtddcbeeldjjmeaaGreatPart16
import Derived.Handy
import Derived.BigQuiet
import Derived.Lib.MinMax
namespace Go.Proofs.YtddcbeeldjjmeaaGreat.Dig
open Go.RowKit
theorem ret_int {k : IntKind} {a b : Int} (h : a = b) : Ending.returned (.int k a) = .returned (.int k b) := by rw [h]
theorem of_any (n : Nat) (s : ByteArray) (w : World) (h2 : n <= 32) (hs : s.size <= maxLen) :
   Calls Tryz.prog 64 #[.int .i64 n, .string s] w fun e w' => e = .returned (.int .i64 (dig n s.data.toList : Int)) /\ w' = w := by
 unfold maxLen at hs
 go_enter Tryz.func64, Tryz.ntmps64
 go_wp2
 go_loop [5, 9] (fun h i => ∃ k : Nat, k <= s.size /\ i = .int .i64 k /\ h = .int .u32 (fnv (s.data.toList.take k) : Int)) (fun _ i => s.size - (intOf i).toNat)
 case atStart => exact ⟨0, Nat.zero_le _, rfl, by rw [List.take_zero, fnv_nil]; rfl⟩
 case round =>
   obtain ⟨k, hk, rfl, rfl⟩ := hrel
   have hl := fnv_lt (s.data.toList.take k)
   by_cases hlt : k < s.size
   . have hr := round_code (fnv (s.data.toList.take k)) s[k].toNat hl s[k].toNat_lt
     rw [<- fnv_take s k hlt] at hr
     have HR : Hid _ := hr
     clear hr
     go_wp2
     go_round
     case rel => exact ⟨k + 1, by omega, by go_num, by rw [HR.out]⟩
     case measure => simp [intOf]; omega
   . have hr := last_code n (fnv (s.data.toList.take k)) h2 hl
     have HR : Hid _ := hr
     clear hr
     go_wp2
     go_ret
     refine ⟨ret_int ?_, rfl⟩
     have e : k = s.size := by omega
     subst e
     unfold dig
     have H := HR.out
     rw [take_all s] at H
     rw [take_all s]
     exact H
end Go.Proofs.YtddcbeeldjjmeaaGreat.Dig
