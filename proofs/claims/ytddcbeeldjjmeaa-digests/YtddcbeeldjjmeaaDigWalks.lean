/- The contracts of the functions that a digest is worked out by. -/
import Derived.Test.YtddcbeeldjjmeaaProg
import Derived.Test.YtddcbeeldjjmeaaDigMath
import Derived.Handy
import Derived.BigQuiet
import Derived.Lib.MinMax
namespace Go.Proofs.Ytddcbeeldjjmeaa.Dig
open Go.RowKit

theorem ret_bool {a b : Bool} (h : a = b) : Ending.returned (.bool a) = .returned (.bool b) := by rw [h]
theorem ret_int {k : IntKind} {a b : Int} (h : a = b) : Ending.returned (.int k a) = .returned (.int k b) := by rw [h]

theorem within_any (n lo hi : Int) (w : World) (h0 : lo ≤ hi) :
    Calls Try.prog 9 #[.int .i64 n, .int .i64 lo, .int .i64 hi] w fun e w' => e = .returned (.bool (decide (lo ≤ n ∧ n ≤ hi))) ∧ w' = w := by
  go_enter Try.func9, Try.ntmps9
  go_wp2
  go_ret
  refine ⟨ret_bool ?_, rfl⟩
  rw [Bool.eq_iff_iff]
  simp
  omega

theorem width_yes (n : Int) (w : World) (h1 : 1 ≤ n) (h2 : n ≤ 32) :
    Calls Try.prog 6 #[.int .i64 n] w fun e w' => e = .returned (.bool true) ∧ w' = w := by
  go_enter Try.func6, Try.ntmps6
  go_wp2_with (go_at_call 9; refine (within_any _ _ _ _ (by omega)).mono ?_; rintro e w' ⟨rfl, rfl⟩)
  go_ret
  exact ⟨ret_bool (by first | (simp; done) | (simp; omega)), rfl⟩
theorem width_no (n : Int) (w : World) (h1 : n < 1 ∨ 32 < n) :
    Calls Try.prog 6 #[.int .i64 n] w fun e w' => e = .returned (.bool false) ∧ w' = w := by
  go_enter Try.func6, Try.ntmps6
  go_wp2_with (go_at_call 9; refine (within_any _ _ _ _ (by omega)).mono ?_; rintro e w' ⟨rfl, rfl⟩)
  go_ret
  exact ⟨ret_bool (by first | (simp; done) | (simp; omega)), rfl⟩

theorem of_any (n : Nat) (s : ByteArray) (w : World) (h2 : n ≤ 32) (hs : s.size ≤ maxLen) :
    Calls Try.prog 7 #[.int .i64 n, .string s] w fun e w' => e = .returned (.int .i64 (dig n s.data.toList : Int)) ∧ w' = w := by
  unfold maxLen at hs
  go_enter Try.func7, Try.ntmps7
  go_wp2
  go_loop [5, 9] (fun h i => ∃ k : Nat, k ≤ s.size ∧ i = .int .i64 k ∧ h = .int .u32 (fnv (s.data.toList.take k) : Int)) (fun _ i => s.size - (intOf i).toNat)
  case atStart => exact ⟨0, Nat.zero_le _, rfl, by rw [List.take_zero, fnv_nil]; rfl⟩
  case round =>
    obtain ⟨k, hk, rfl, rfl⟩ := hrel
    have hl := fnv_lt (s.data.toList.take k)
    by_cases hlt : k < s.size
    · have hr := round_code (fnv (s.data.toList.take k)) s[k].toNat hl s[k].toNat_lt
      rw [← fnv_take s k hlt] at hr
      have HR : Hid _ := hr
      clear hr
      go_wp2
      go_round
      case rel => exact ⟨k + 1, by omega, by go_num, by rw [HR.out]⟩
      case measure => simp [intOf]; omega
    · have hr := last_code n (fnv (s.data.toList.take k)) h2 hl
      have HR : Hid _ := hr
      clear hr
      go_wp2
      go_ret
      refine ⟨ret_int ?_, rfl⟩
      have e : k = s.size := by omega
      subst e
      unfold dig
      have H := HR.out
      rw [take_all s] at H
      rw [take_all s]
      exact H

theorem xor_any (a b : Nat) (w : World) (ha : a < 4294967296) (hb : b < 4294967296) :
    Calls Try.prog 10 #[.int .i64 a, .int .i64 b] w fun e w' => e = .returned (.int .i64 ((a ^^^ b : Nat) : Int)) ∧ ∃ n, w' = w.drewN n := by
  go_enter Try.func10, Try.ntmps10
  go_wp2
  go_loopw [5, 6] (fun o i wr => ∃ k n : Nat, k ≤ 32 ∧ i = .int .i64 ((k : Int) - 1) ∧ o = .int .i64 ((a / 2 ^ k ^^^ b / 2 ^ k : Nat) : Int) ∧ wr = w.drewN n) (fun _ i _ => (intOf i + 1).toNat)
  case atStart => exact ⟨32, 0, by omega, by go_num, by simp [Nat.div_eq_of_lt ha, Nat.div_eq_of_lt hb], rfl⟩
  case round =>
    obtain ⟨k, n, hk, rfl, rfl, rfl⟩ := hrel
    rcases k with _ | k
    · go_wp2
      go_ret
      exact ⟨ret_int (by rw [Nat.pow_zero, Nat.div_one, Nat.div_one]), n, rfl⟩
    · have hr := xor_round a b k ha hb
      have HR : Hid _ := hr
      clear hr
      go_wp2
      go_quiet (fail)
      go_wp2
      go_roundw
      case rel => exact ⟨k, _, by omega, by go_num, by rw [HR.out], rfl⟩
      case measure => simp [intOf]
theorem xor_int (a b : Int) (w : World) (h1 : 0 ≤ a) (h2 : a < 4294967296) (h3 : 0 ≤ b) (h4 : b < 4294967296) :
    Calls Try.prog 10 #[.int .i64 a, .int .i64 b] w fun e w' => e = .returned (.int .i64 ((a.toNat ^^^ b.toNat : Nat) : Int)) ∧ ∃ n, w' = w.drewN n := by
  obtain ⟨A, rfl⟩ := Int.eq_ofNat_of_zero_le h1
  obtain ⟨B, rfl⟩ := Int.eq_ofNat_of_zero_le h3
  exact xor_any A B w (by omega) (by omega)

theorem refdigest_any (n : Nat) (s : ByteArray) (w : World) (h2 : n ≤ 32) (hs : s.size ≤ maxLen) :
    Calls Try.prog 8 #[.int .i64 n, .string s] w fun e w' => e = .returned (.int .i64 (dig n s.data.toList : Int)) ∧ ∃ m, w' = w.drewN m := by
  unfold maxLen at hs
  go_enter Try.func8, Try.ntmps8
  go_wp2
  go_loopw [5, 6] (fun h i wr => ∃ k m : Nat, k ≤ s.size ∧ i = .int .i64 k ∧ h = .int .i64 (fnv (s.data.toList.take k) : Int) ∧ wr = w.drewN m) (fun _ i _ => s.size - (intOf i).toNat)
  case atStart => exact ⟨0, 0, Nat.zero_le _, rfl, by rw [List.take_zero, fnv_nil]; rfl, rfl⟩
  case round =>
    obtain ⟨k, m, hk, rfl, rfl, rfl⟩ := hrel
    have hl := fnv_lt (s.data.toList.take k)
    by_cases hlt : k < s.size
    · have hc := s[k].toNat_lt
      have hr := round_ref (fnv (s.data.toList.take k)) s[k].toNat hl hc
      rw [← fnv_take s k hlt] at hr
      have HR : Hid _ := hr
      clear hr
      go_wp2_with (go_at_call 10; refine (xor_int _ _ _ (by omega) (by omega) (by omega) (by omega)).mono ?_; rintro e w' ⟨rfl, q, rfl⟩)
      go_roundw
      case rel => exact ⟨k + 1, _, by omega, by go_num, by rw [HR.out], rfl⟩
      case measure => simp [intOf]; omega
    · have hp := shl_code n h2
      have hp1 : ¬ (2 : Int) ^ n = 0 := by
        have h := pow_pos' n
        rw [show ((2 : Int) ^ n) = ((2 ^ n : Nat) : Int) from by simp]
        omega
      obtain ⟨wr, hwr⟩ : ∃ wr, wr = w.drewN m := ⟨_, rfl⟩
      rw [← hwr]
      have HW : Hid _ := hwr
      clear hwr
      go_wp2_with fail
      go_quiet ((go_at_call 10; exact Calls.quiet_of (xor_int _ _ _ (by omega) (by omega) (by omega) (by omega))))
      go_wp2
      go_ret
      refine ⟨ret_int ?_, m + nq, by rw [HW.out, World.drewN_drewN]⟩
      have e : k = s.size := by omega
      subst e
      unfold dig
      rw [take_all s]
      simp

/-- Is the number a width? -/
def okW (n : Int) : Bool := decide (1 ≤ n ∧ n ≤ 32)
/-- What the face answers: the digest, and no error; or nothing, and 'no width'. -/
def ans (n : Int) (s : ByteArray) : Value :=
  if okW n = true then .tuple #[.int .i64 (dig n.toNat s.data.toList : Int), .int .i64 0] else .tuple #[.int .i64 0, .int .i64 2]

theorem face_any (n : Int) (s : ByteArray) (w : World) (hs : s.size ≤ maxLen) :
    Calls Try.prog 4 #[.int .i64 n, .string s] w fun e w' => e = .returned (ans n s) ∧ w' = w := by
  by_cases h : 1 ≤ n ∧ n ≤ 32
  · have ha : ans n s = .tuple #[.int .i64 (dig n.toNat s.data.toList : Int), .int .i64 0] := by unfold ans okW; rw [if_pos (by simpa using h)]
    rw [ha]
    clear ha
    obtain ⟨h1, h2⟩ := h
    obtain ⟨N, rfl⟩ := Int.eq_ofNat_of_zero_le (by omega : 0 ≤ n)
    go_enter Try.func4, Try.ntmps4
    go_wp2_with (first
      | (go_at_call 6; refine (width_yes _ _ h1 h2).mono ?_; rintro e w' ⟨rfl, rfl⟩)
      | (go_at_call 7; refine (of_any _ _ _ (by omega) hs).mono ?_; rintro e w' ⟨rfl, rfl⟩))
    go_ret2
    exact ⟨rfl, rfl⟩
  · have ha : ans n s = .tuple #[.int .i64 0, .int .i64 2] := by unfold ans okW; rw [if_neg (by simpa using h)]
    rw [ha]
    clear ha
    go_enter Try.func4, Try.ntmps4
    go_wp2_with (go_at_call 6; refine (width_no _ _ (by omega)).mono ?_; rintro e w' ⟨rfl, rfl⟩)
    go_ret2
    exact ⟨rfl, rfl⟩

theorem ref_any (n : Int) (s : ByteArray) (w : World) (hs : s.size ≤ maxLen) :
    Calls Try.prog 5 #[.int .i64 n, .string s] w fun e w' => e = .returned (ans n s) ∧ ∃ m, w' = w.drewN m := by
  by_cases h : 1 ≤ n ∧ n ≤ 32
  · have ha : ans n s = .tuple #[.int .i64 (dig n.toNat s.data.toList : Int), .int .i64 0] := by unfold ans okW; rw [if_pos (by simpa using h)]
    rw [ha]
    clear ha
    obtain ⟨h1, h2⟩ := h
    obtain ⟨N, rfl⟩ := Int.eq_ofNat_of_zero_le (by omega : 0 ≤ n)
    have h3 : ¬ (N : Int) < 1 := by omega
    have h4 : ¬ 32 < (N : Int) := by omega
    go_enter Try.func5, Try.ntmps5
    go_wp2_with (go_at_call 8; refine (refdigest_any _ _ _ (by omega) hs).mono ?_; rintro e w' ⟨rfl, q, rfl⟩)
    go_ret2
    exact ⟨rfl, _, rfl⟩
  · have ha : ans n s = .tuple #[.int .i64 0, .int .i64 2] := by unfold ans okW; rw [if_neg (by simpa using h)]
    rw [ha]
    clear ha
    by_cases h1 : n < 1
    · go_enter Try.func5, Try.ntmps5
      go_wp2
      go_ret2
      exact ⟨rfl, 0, rfl⟩
    · have h2 : 32 < n := by omega
      go_enter Try.func5, Try.ntmps5
      go_wp2
      go_ret2
      exact ⟨rfl, 0, rfl⟩

theorem digests_any (n : Int) (s : ByteArray) (w : World) (hs : s.size ≤ maxLen) :
    Calls Try.prog 3 #[.int .i64 n, .string s] w fun e w' => e = .returned (.bool true) ∧ ∃ m, w' = w.drewN m := by
  obtain ⟨x, y, ha⟩ : ∃ x y, ans n s = .tuple #[.int .i64 x, .int .i64 y] := by unfold ans; split <;> exact ⟨_, _, rfl⟩
  have hb : ans 32 ⟨#[]⟩ = .tuple #[.int .i64 2166202364, .int .i64 0] := by
    unfold ans okW
    rw [if_pos (by decide)]
    rw [show dig (32 : Int).toNat (ByteArray.mk #[]).data.toList = 2166202364 from dig_empty]
    rfl
  go_enter Try.func3, Try.ntmps3
  go_wp2_with fail
  refine (face_any _ _ _ hs).mono ?_
  rintro e w' ⟨rfl, rfl⟩
  rw [ha]
  go_wp2_with fail
  refine (ref_any _ _ _ hs).mono ?_
  rintro e w' ⟨rfl, q, rfl⟩
  rw [ha]
  go_wp2_with fail
  refine (face_any _ _ _ (Nat.zero_le _)).mono ?_
  rintro e w' ⟨rfl, rfl⟩
  rw [hb]
  go_wp2
  go_ret
  exact ⟨ret_bool (by simp), _, rfl⟩
end Go.Proofs.Ytddcbeeldjjmeaa.Dig
