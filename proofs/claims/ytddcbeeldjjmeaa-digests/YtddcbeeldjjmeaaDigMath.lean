/- Plain numbers: the digest's rounds, on natural numbers. No walk. -/
import Derived.WalkKit
namespace Go.Proofs.Ytddcbeeldjjmeaa.Dig
open Go.RowKit

/-- One round of the digest. -/
def rnd (h c : Nat) : Nat := ((h ^^^ c) * 16777619) % 4294967296
/-- The digest's state behind a list of bytes, from a start on. -/
def fnvOf (a : Nat) (l : List UInt8) : Nat := l.foldl (fun h c => rnd h c.toNat) a
theorem fnvOf_nil (a : Nat) : fnvOf a [] = a := rfl
theorem fnvOf_cons (a : Nat) (c : UInt8) (l : List UInt8) : fnvOf a (c :: l) = fnvOf (rnd a c.toNat) l := rfl
theorem fnvOf_snoc (a : Nat) (l : List UInt8) (c : UInt8) : fnvOf a (l ++ [c]) = rnd (fnvOf a l) c.toNat := by
  induction l generalizing a with
  | nil => rw [List.nil_append, fnvOf_cons, fnvOf_nil, fnvOf_nil]
  | cons d l ih => rw [List.cons_append, fnvOf_cons, fnvOf_cons, ih]
theorem rnd_lt (h c : Nat) : rnd h c < 4294967296 := by unfold rnd; omega
theorem fnvOf_lt (l : List UInt8) : ∀ a, a < 4294967296 → fnvOf a l < 4294967296 := by
  induction l with
  | nil => intro a ha; exact ha
  | cons c l ih => intro a _; exact ih _ (rnd_lt _ _)
def start : Nat := 2166136261
theorem start_is : start = 2166136261 := by unfold start; exact Eq.refl _
/-- The digest's state behind a list of bytes. -/
def fnv (l : List UInt8) : Nat := fnvOf start l
/-- The digest, of a width. -/
def dig (w : Nat) (l : List UInt8) : Nat := (fnv l ^^^ fnv l / 32768) % 2 ^ w

theorem fnv_lt (l : List UInt8) : fnv l < 4294967296 := fnvOf_lt l _ (by rw [start_is]; omega)
theorem fnv_nil : fnv [] = 2166136261 := by unfold fnv; rw [fnvOf_nil, start_is]
theorem fnv_snoc (l : List UInt8) (c : UInt8) : fnv (l ++ [c]) = rnd (fnv l) c.toNat := fnvOf_snoc start l c
theorem take_snoc (s : ByteArray) (k : Nat) (h : k < s.size) : s.data.toList.take (k + 1) = s.data.toList.take k ++ [s[k]] := by
  rw [List.take_succ_eq_append_getElem (by simpa using h)]; rfl
theorem fnv_take (s : ByteArray) (k : Nat) (h : k < s.size) : fnv (s.data.toList.take (k + 1)) = rnd (fnv (s.data.toList.take k)) s[k].toNat := by
  rw [take_snoc s k h, fnv_snoc]
theorem take_all (s : ByteArray) : s.data.toList.take s.size = s.data.toList := List.take_of_length_le (by simp)

theorem xor_lt (a b : Nat) (ha : a < 4294967296) (hb : b < 4294967296) : a ^^^ b < 4294967296 := by
  have := Nat.xor_lt_two_pow (n := 32) (by simpa using ha) (by simpa using hb)
  simpa using this
/-- 'a xor b', from the top bit down. -/
theorem xor_step (x y : Nat) : 2 * (x / 2 ^^^ y / 2) + (x + y) % 2 = x ^^^ y := by
  have e : (x ^^^ y) / 2 = x / 2 ^^^ y / 2 := Nat.xor_div_two
  have m : (x ^^^ y) % 2 = (x + y) % 2 := by
    have := @Nat.xor_mod_two_eq_one x y
    omega
  omega
theorem shr_step (a k : Nat) : a / 2 ^ (k + 1) = a / 2 ^ k / 2 := by rw [Nat.div_div_eq_div_mul, Nat.pow_succ]
theorem xor_down (a b k : Nat) : 2 * (a / 2 ^ (k + 1) ^^^ b / 2 ^ (k + 1)) + (a / 2 ^ k + b / 2 ^ k) % 2 = a / 2 ^ k ^^^ b / 2 ^ k := by
  rw [shr_step, shr_step, xor_step]
theorem dig_empty : dig 32 [] = 2166202364 := by decide +kernel
theorem ofInt_i64 (a : Nat) (ha : a < 9223372036854775808) : (BitVec.ofInt 64 (a : Int)).toNat = a := by
  rw [BitVec.ofInt_natCast, BitVec.toNat_ofNat]; exact Nat.mod_eq_of_lt (by omega)
theorem i64_and_nat (a b : Nat) (ha : a < 9223372036854775808) (hb : b < 9223372036854775808) : bits .and .i64 (a : Int) (b : Int) = ((a &&& b : Nat) : Int) := by
  have hx : a &&& b < 2 ^ 63 := Nat.and_lt_two_pow _ (by omega)
  show IntKind.i64.wrap ((BitVec.ofInt 64 (a : Int) &&& BitVec.ofInt 64 (b : Int)).toNat : Int) = _
  rw [BitVec.toNat_and, ofInt_i64 a ha, ofInt_i64 b hb, IntKind.wrap_i64]
  omega
theorem pow32 (n : Nat) (h : n ≤ 32) : 2 ^ n ≤ 4294967296 := by
  have := Nat.pow_le_pow_right (n := 2) (by decide) h
  simpa using this
theorem pow_pos' (n : Nat) : 1 ≤ 2 ^ n := Nat.one_le_two_pow
theorem int_shr (a k : Nat) : (a : Int) / 2 ^ k = ((a / 2 ^ k : Nat) : Int) := by simp
theorem xor_round (a b k : Nat) (ha : a < 4294967296) (hb : b < 4294967296) :
    wrap64 (wrap64 (2 * ((a / 2 ^ (k + 1) ^^^ b / 2 ^ (k + 1) : Nat) : Int)) + (wrap64 ((a : Int) / 2 ^ k + (b : Int) / 2 ^ k)).tmod 2) = ((a / 2 ^ k ^^^ b / 2 ^ k : Nat) : Int) := by
  have hd := xor_down a b k
  have h1 : a / 2 ^ k < 4294967296 := Nat.lt_of_le_of_lt (Nat.div_le_self _ _) ha
  have h2 : b / 2 ^ k < 4294967296 := Nat.lt_of_le_of_lt (Nat.div_le_self _ _) hb
  have h3 := xor_lt _ _ h1 h2
  rw [int_shr, int_shr]
  generalize a / 2 ^ k = x at *
  generalize b / 2 ^ k = y at *
  generalize a / 2 ^ (k + 1) ^^^ b / 2 ^ (k + 1) = z at *
  generalize x ^^^ y = v at *
  rw [IntWalk.wrap64_in ((x : Int) + (y : Int)) ⟨by omega, by omega⟩, IntWalk.wrap64_in (2 * (z : Int)) ⟨by omega, by omega⟩, Int.tmod_eq_emod_of_nonneg (by omega), IntWalk.wrap64_in _ ⟨by omega, by omega⟩]
  omega
/-- The last step of the program's digest. -/
theorem last_code (n h : Nat) (hn : n ≤ 32) (hh : h < 4294967296) :
    bits .and .i64 (wrap64 (bits .xor .u32 (h : Int) ((h : Int) / 32768))) (wrap64 (wrap64 (2 ^ n) - 1)) = (((h ^^^ h / 32768) % 2 ^ n : Nat) : Int) := by
  have e1 : bits .xor .u32 (h : Int) ((h : Int) / 32768) = ((h ^^^ h / 32768 : Nat) : Int) := by
    rw [show ((h : Int) / 32768) = ((h / 32768 : Nat) : Int) from by omega]
    exact u32_xor_nat h (h / 32768) hh (by omega)
  have hx := xor_lt h (h / 32768) hh (by omega)
  have hp := pow32 n hn
  have hp1 := pow_pos' n
  have e2 : ((2 : Int) ^ n) = ((2 ^ n : Nat) : Int) := by simp
  rw [e1, e2]
  generalize h ^^^ h / 32768 = x at hx ⊢
  generalize hP : 2 ^ n = P at hp hp1 ⊢
  have e3 : wrap64 (x : Int) = (x : Int) := IntWalk.wrap64_in _ ⟨by omega, by omega⟩
  have e4 : wrap64 (wrap64 (P : Int) - 1) = ((P - 1 : Nat) : Int) := by
    rw [IntWalk.wrap64_in (P : Int) ⟨by omega, by omega⟩, IntWalk.wrap64_in _ ⟨by omega, by omega⟩]; omega
  rw [e3, e4, i64_and_nat x (P - 1) (by omega) (by omega), ← hP, Nat.and_two_pow_sub_one_eq_mod]
/-- A round of the program's digest. -/
theorem round_code (h c : Nat) (hh : h < 4294967296) (hc : c < 256) :
    bits .xor .u32 (h : Int) ((c : Int) % 4294967296) * 16777619 % 4294967296 = ((rnd h c : Nat) : Int) := by
  rw [show ((c : Int) % 4294967296) = ((c : Nat) : Int) from by omega, u32_xor_nat h c hh (by omega)]
  unfold rnd
  omega
theorem shl_code (n : Nat) (hn : n ≤ 32) : wrap64 (2 ^ n) = ((2 ^ n : Nat) : Int) := by
  have hp := pow32 n hn
  have e2 : ((2 : Int) ^ n) = ((2 ^ n : Nat) : Int) := by simp
  rw [e2]
  generalize 2 ^ n = P at *
  exact IntWalk.wrap64_in _ ⟨by omega, by omega⟩
theorem round_ref (h c : Nat) (hh : h < 4294967296) (hc : c < 256) : (wrap64 (((h ^^^ c : Nat) : Int) * 16777619)).tmod 4294967296 = ((rnd h c : Nat) : Int) := by
  have hx := xor_lt h c hh (by omega)
  unfold rnd
  generalize h ^^^ c = x at *
  rw [IntWalk.wrap64_in _ ⟨by omega, by omega⟩, Int.tmod_eq_emod_of_nonneg (by omega)]
  omega
end Go.Proofs.Ytddcbeeldjjmeaa.Dig
