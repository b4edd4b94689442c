/- Bytes, as plain lists: what is written, what is read;. -/
import Derived.WalkKit
namespace Go.Proofs.YtddcbeeldjjmeaaGreat.Pu
set_option linter.unusedVariables false
set_option linter.unusedSimpArgs false
theorem ofInt_i64 (a : Nat) (ha : a < 9223372036854775808) : (BitVec.ofInt 64 (a : Int)).toNat = a := by
 rw [BitVec.ofInt_natCast, BitVec.toNat_ofNat]; exact Nat.mod_eq_of_lt (by omega)
theorem i64_or_nat (a b : Nat) (ha : a < 9223372036854775808) (hb : b < 9223372036854775808) : Go.bits .or .i64 (a : Int) (b : Int) = ((a ||| b : Nat) : Int) := by
 have hx : a ||| b < 2 ^ 63 := Nat.or_lt_two_pow (by omega) (by omega)
 show IntKind.i64.wrap ((BitVec.ofInt 64 (a : Int) ||| BitVec.ofInt 64 (b : Int)).toNat : Int) = _
 rw [BitVec.toNat_or, ofInt_i64 a ha, ofInt_i64 b hb, IntKind.wrap_i64]
 omega
def b8 (n : Nat) : UInt8 := UInt8.ofNat n
theorem b8_toNat (n : Nat) (h : n < 256) : (b8 n).toNat = n := by simp [b8]; omega
def eNumF : Nat -> Nat -> List UInt8
 | 0, _ => []
 | f + 1, n => if n < 128 then [b8 n] else b8 (128 + n % 128) :: eNumF f (n / 128)
def eNum (n : Nat) : List UInt8 := eNumF 10 n
def e4 (n : Nat) : List UInt8 := [b8 (n / 16777216 % 256), b8 (n / 65536 % 256), b8 (n / 256 % 256), b8 (n % 256)]
def bit (s : List UInt8) (i : Nat) : Nat := if s[i]? = some 49 then 1 else 0
theorem bit_le (s : List UInt8) (i : Nat) : bit s i <= 1 := by unfold bit; split <;> omega
def packB (s : List UInt8) (j : Nat) : Nat :=
 bit s (8 * j) * 128 + bit s (8 * j + 1) * 64 + bit s (8 * j + 2) * 32 + bit s (8 * j + 3) * 16 + bit s (8 * j + 4) * 8 + bit s (8 * j + 5) * 4 + bit s (8 * j + 6) * 2 + bit s (8 * j + 7)
theorem packB_lt (s : List UInt8) (j : Nat) : packB s j < 256 := by
 unfold packB
 have h0 := bit_le s (8 * j); have h1 := bit_le s (8 * j + 1); have h2 := bit_le s (8 * j + 2); have h3 := bit_le s (8 * j + 3)
 have h4 := bit_le s (8 * j + 4); have h5 := bit_le s (8 * j + 5); have h6 := bit_le s (8 * j + 6); have h7 := bit_le s (8 * j + 7)
 omega
def pack (s : List UInt8) : List UInt8 := (List.range ((s.length + 7) / 8)).map fun j => b8 (packB s j)
def isP (s : List UInt8) : Prop := (∀ c, c ∈ s -> c = 48 \/ c = 49) /\ s.length <= 37
def ePath (s : List UInt8) : List UInt8 := eNum s.length ++ pack s
theorem bit_take (s : List UInt8) (n i : Nat) : bit (s.take n) i = if i < n then bit s i else 0 := by
 unfold bit
 rw [List.getElem?_take]
 by_cases h : i < n
 . rw [if_pos h, if_pos h]
 . rw [if_neg h, if_neg h, if_neg (by intro h'; cases h')]
theorem pack_length (s : List UInt8) : (pack s).length = (s.length + 7) / 8 := by simp [pack]
def eVal (v : List UInt8) : List UInt8 := eNum v.length ++ v
structure Nd where
 kind : Int
 path : List UInt8
 value : List UInt8
 left : Int
 right : Int
 deriving DecidableEq
def isPb (s : List UInt8) : Bool := s.all (fun c => c == 48 || c == 49) && decide (s.length <= 37)
theorem isPb_iff (s : List UInt8) : isPb s = true ↔ isP s := by
 simp [isPb, isP]
def is32 (n : Int) : Bool := decide (0 <= n /\ n < 4294967296)
def empty : Nd := ⟨2, [], [], 0, 0⟩
def encN (n : Nd) : Option (List UInt8) :=
 if n = empty then some [2]
 else if n.kind = 0 /\ isPb n.path = true /\ n.value.length <= 20 /\ n.left = 0 /\ n.right = 0 then some (0 :: (ePath n.path ++ eVal n.value))
 else if n.kind = 1 /\ isPb n.path = true /\ n.value = [] /\ is32 n.left = true /\ is32 n.right = true then some (1 :: (ePath n.path ++ (e4 n.left.toNat ++ e4 n.right.toNat)))
 else none
end Go.Proofs.YtddcbeeldjjmeaaGreat.Pu
namespace Go.Proofs.YtddcbeeldjjmeaaGreat.Dig
open Go.RowKit
def rnd (h c : Nat) : Nat := ((h ^^^ c) * 16777619) % 4294967296
def fnvOf (a : Nat) (l : List UInt8) : Nat := l.foldl (fun h c => rnd h c.toNat) a
theorem fnvOf_nil (a : Nat) : fnvOf a [] = a := rfl
theorem fnvOf_cons (a : Nat) (c : UInt8) (l : List UInt8) : fnvOf a (c :: l) = fnvOf (rnd a c.toNat) l := rfl
theorem fnvOf_snoc (a : Nat) (l : List UInt8) (c : UInt8) : fnvOf a (l ++ [c]) = rnd (fnvOf a l) c.toNat := by
 induction l generalizing a with
 | nil => rw [List.nil_append, fnvOf_cons, fnvOf_nil, fnvOf_nil]
 | cons d l ih => rw [List.cons_append, fnvOf_cons, fnvOf_cons, ih]
theorem rnd_lt (h c : Nat) : rnd h c < 4294967296 := by unfold rnd; omega
theorem fnvOf_lt (l : List UInt8) : ∀ a, a < 4294967296 -> fnvOf a l < 4294967296 := by
 induction l with
 | nil => intro a ha; exact ha
 | cons c l ih => intro a _; exact ih _ (rnd_lt _ _)
def start : Nat := 2166136261
theorem start_is : start = 2166136261 := by unfold start; exact Eq.refl _
def fnv (l : List UInt8) : Nat := fnvOf start l
def dig (w : Nat) (l : List UInt8) : Nat := (fnv l ^^^ fnv l / 32768) % 2 ^ w
theorem fnv_lt (l : List UInt8) : fnv l < 4294967296 := fnvOf_lt l _ (by rw [start_is]; omega)
theorem fnv_nil : fnv [] = 2166136261 := by unfold fnv; rw [fnvOf_nil, start_is]
theorem fnv_snoc (l : List UInt8) (c : UInt8) : fnv (l ++ [c]) = rnd (fnv l) c.toNat := fnvOf_snoc start l c
theorem take_snoc (s : ByteArray) (k : Nat) (h : k < s.size) : s.data.toList.take (k + 1) = s.data.toList.take k ++ [s[k]] := by
 rw [List.take_succ_eq_append_getElem (by simpa using h)]; rfl
theorem fnv_take (s : ByteArray) (k : Nat) (h : k < s.size) : fnv (s.data.toList.take (k + 1)) = rnd (fnv (s.data.toList.take k)) s[k].toNat := by
 rw [take_snoc s k h, fnv_snoc]
theorem take_all (s : ByteArray) : s.data.toList.take s.size = s.data.toList := List.take_of_length_le (by simp)
theorem xor_lt (a b : Nat) (ha : a < 4294967296) (hb : b < 4294967296) : a ^^^ b < 4294967296 := by
 have := Nat.xor_lt_two_pow (n := 32) (by simpa using ha) (by simpa using hb)
 simpa using this
theorem ofInt_i64 (a : Nat) (ha : a < 9223372036854775808) : (BitVec.ofInt 64 (a : Int)).toNat = a := by
 rw [BitVec.ofInt_natCast, BitVec.toNat_ofNat]; exact Nat.mod_eq_of_lt (by omega)
theorem i64_and_nat (a b : Nat) (ha : a < 9223372036854775808) (hb : b < 9223372036854775808) : bits .and .i64 (a : Int) (b : Int) = ((a &&& b : Nat) : Int) := by
 have hx : a &&& b < 2 ^ 63 := Nat.and_lt_two_pow _ (by omega)
 show IntKind.i64.wrap ((BitVec.ofInt 64 (a : Int) &&& BitVec.ofInt 64 (b : Int)).toNat : Int) = _
 rw [BitVec.toNat_and, ofInt_i64 a ha, ofInt_i64 b hb, IntKind.wrap_i64]
 omega
theorem pow32 (n : Nat) (h : n <= 32) : 2 ^ n <= 4294967296 := by
 have := Nat.pow_le_pow_right (n := 2) (by decide) h
 simpa using this
theorem pow_pos' (n : Nat) : 1 <= 2 ^ n := Nat.one_le_two_pow
theorem last_code (n h : Nat) (hn : n <= 32) (hh : h < 4294967296) :
   bits .and .i64 (wrap64 (bits .xor .u32 (h : Int) ((h : Int) / 32768))) (wrap64 (wrap64 (2 ^ n) - 1)) = (((h ^^^ h / 32768) % 2 ^ n : Nat) : Int) := by
 have e1 : bits .xor .u32 (h : Int) ((h : Int) / 32768) = ((h ^^^ h / 32768 : Nat) : Int) := by
   rw [show ((h : Int) / 32768) = ((h / 32768 : Nat) : Int) from by omega]
   exact u32_xor_nat h (h / 32768) hh (by omega)
 have hx := xor_lt h (h / 32768) hh (by omega)
 have hp := pow32 n hn
 have hp1 := pow_pos' n
 have e2 : ((2 : Int) ^ n) = ((2 ^ n : Nat) : Int) := by simp
 rw [e1, e2]
 generalize h ^^^ h / 32768 = x at hx ⊢
 generalize hP : 2 ^ n = P at hp hp1 ⊢
 have e3 : wrap64 (x : Int) = (x : Int) := IntWalk.wrap64_in _ ⟨by omega, by omega⟩
 have e4 : wrap64 (wrap64 (P : Int) - 1) = ((P - 1 : Nat) : Int) := by
   rw [IntWalk.wrap64_in (P : Int) ⟨by omega, by omega⟩, IntWalk.wrap64_in _ ⟨by omega, by omega⟩]; omega
 rw [e3, e4, i64_and_nat x (P - 1) (by omega) (by omega), <- hP, Nat.and_two_pow_sub_one_eq_mod]
theorem round_code (h c : Nat) (hh : h < 4294967296) (hc : c < 256) :
   bits .xor .u32 (h : Int) ((c : Int) % 4294967296) * 16777619 % 4294967296 = ((rnd h c : Nat) : Int) := by
 rw [show ((c : Int) % 4294967296) = ((c : Nat) : Int) from by omega, u32_xor_nat h c hh (by omega)]
 unfold rnd
 omega
end Go.Proofs.YtddcbeeldjjmeaaGreat.Dig
