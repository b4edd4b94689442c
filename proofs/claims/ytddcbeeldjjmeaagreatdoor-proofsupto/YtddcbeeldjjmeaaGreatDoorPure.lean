/- Bytes, as plain lists: what is written, what is read; what is read is what was written. No walk. -/
import Derived.WalkKit
namespace Go.Proofs.YtddcbeeldjjmeaaGreatDoor.Pu
set_option linter.unusedVariables false
set_option linter.unusedSimpArgs false

/-! ### int's 'or' -/
theorem ofInt_i64 (a : Nat) (ha : a < 9223372036854775808) : (BitVec.ofInt 64 (a : Int)).toNat = a := by
  rw [BitVec.ofInt_natCast, BitVec.toNat_ofNat]; exact Nat.mod_eq_of_lt (by omega)
theorem i64_or_nat (a b : Nat) (ha : a < 9223372036854775808) (hb : b < 9223372036854775808) : Go.bits .or .i64 (a : Int) (b : Int) = ((a ||| b : Nat) : Int) := by
  have hx : a ||| b < 2 ^ 63 := Nat.or_lt_two_pow (by omega) (by omega)
  show IntKind.i64.wrap ((BitVec.ofInt 64 (a : Int) ||| BitVec.ofInt 64 (b : Int)).toNat : Int) = _
  rw [BitVec.toNat_or, ofInt_i64 a ha, ofInt_i64 b hb, IntKind.wrap_i64]
  omega
theorem or4 (a b c d : Nat) (ha : a < 256) (hb : b < 256) (hc : c < 256) (hd : d < 256) :
    Go.bits .or .i64 (Go.bits .or .i64 (Go.bits .or .i64 ((a : Int) * 16777216) ((b : Int) * 65536)) ((c : Int) * 256)) (d : Int) = ((a * 16777216 + b * 65536 + c * 256 + d : Nat) : Int) := by
  rw [show ((a : Int) * 16777216) = ((a * 16777216 : Nat) : Int) from by omega, show ((b : Int) * 65536) = ((b * 65536 : Nat) : Int) from by omega, show ((c : Int) * 256) = ((c * 256 : Nat) : Int) from by omega]
  rw [i64_or_nat _ _ (by omega) (by omega), nat_join 24 (a * 16777216) (b * 65536) (by omega) (by omega)]
  rw [i64_or_nat _ _ (by omega) (by omega), nat_join 16 (a * 16777216 + b * 65536) (c * 256) (by omega) (by omega)]
  rw [i64_or_nat _ _ (by omega) (by omega), nat_join 8 (a * 16777216 + b * 65536 + c * 256) d (by omega) (by omega)]
theorem or_num (n x j : Nat) (hn : n < 2 ^ (7 * j)) (hx : x < 128) (hj : j < 4) : Go.bits .or .i64 (n : Int) ((x * 2 ^ (7 * j) : Nat) : Int) = ((n + x * 2 ^ (7 * j) : Nat) : Int) := by
  have h28 : 2 ^ (7 * j) ≤ 2 ^ 21 := Nat.pow_le_pow_right (by decide) (by omega)
  have hm : x * 2 ^ (7 * j) ≤ 127 * 2 ^ 21 := Nat.mul_le_mul (by omega) h28
  rw [i64_or_nat _ _ (by omega) (by omega), Nat.or_comm, nat_join (7 * j) (x * 2 ^ (7 * j)) n (by simp) hn, Nat.add_comm]

theorem num_code (m c j : Nat) (hm : m < 2 ^ (7 * j)) (hj : j < 4) (hc : c < 256) :
    Go.bits .or .i64 (m : Int) (RowKit.wrap64 (Go.bits .and .i64 (c : Int) 127 * ((2 ^ (7 * j) : Nat) : Int))) = ((m + c % 128 * 128 ^ j : Nat) : Int) := by
  have h28 : 2 ^ (7 * j) ≤ 2 ^ 21 := Nat.pow_le_pow_right (by decide) (by omega)
  have hx : c % 128 * 2 ^ (7 * j) ≤ 127 * 2 ^ 21 := Nat.mul_le_mul (by omega) h28
  rw [i64_and127, show ((c : Int) % 128) = ((c % 128 : Nat) : Int) from by omega, ← Int.natCast_mul, IntWalk.wrap64_in _ ⟨by omega, by omega⟩, or_num m (c % 128) j hm (by omega) hj]
  rw [show (128 : Nat) = 2 ^ 7 from rfl, ← Nat.pow_mul]

/-! ### Numbers -/
def b8 (n : Nat) : UInt8 := UInt8.ofNat n
theorem b8_toNat (n : Nat) (h : n < 256) : (b8 n).toNat = n := by simp [b8]; omega
theorem b8_of (c : UInt8) : b8 c.toNat = c := by simp [b8]
theorem b8_eq (n : Nat) (c : UInt8) (h : c.toNat = n) : c = b8 n := by rw [← h, b8_of]

/-- A number: seven bits a byte, the lowest first. -/
def eNumF : Nat → Nat → List UInt8
  | 0, _ => []
  | f + 1, n => if n < 128 then [b8 n] else b8 (128 + n % 128) :: eNumF f (n / 128)
def eNum (n : Nat) : List UInt8 := eNumF 10 n
/-- Reading, strictly: r bytes at most are still to come, i are read, n is what they give. -/
def pNumF : Nat → Nat → Nat → List UInt8 → Option (Nat × List UInt8)
  | 0, _, _, _ => none
  | _ + 1, _, _, [] => none
  | r + 1, i, n, b :: l =>
    if b.toNat = 0 ∧ 0 < i then none
    else if b.toNat < 128 then some (n + b.toNat % 128 * 128 ^ i, l)
    else pNumF r (i + 1) (n + b.toNat % 128 * 128 ^ i) l
def pNum (l : List UInt8) : Option (Nat × List UInt8) := pNumF 4 0 0 l
/-- Reading, whatever the form. -/
def rNumF : Nat → Nat → Nat → List UInt8 → Nat × List UInt8
  | 0, _, n, l => (n, l)
  | _ + 1, _, n, [] => (n, [])
  | r + 1, i, n, b :: l => if b.toNat < 128 then (n + b.toNat % 128 * 128 ^ i, l) else rNumF r (i + 1) (n + b.toNat % 128 * 128 ^ i) l
def rNum (l : List UInt8) : Nat × List UInt8 := rNumF 5 0 0 l

theorem acc_step (acc m i : Nat) : acc + m % 128 * 128 ^ i + m / 128 * 128 ^ (i + 1) = acc + m * 128 ^ i := by
  rw [Nat.pow_succ, Nat.mul_comm (128 ^ i) 128, ← Nat.mul_assoc, Nat.add_assoc, ← Nat.add_mul]
  rw [show m % 128 + m / 128 * 128 = m from by omega]
theorem pNumF_e (r : Nat) : ∀ (i acc m f : Nat) (l : List UInt8), m < 128 ^ r → (i = 0 ∨ 0 < m) → 0 < r → r ≤ f → pNumF r i acc (eNumF f m ++ l) = some (acc + m * 128 ^ i, l) := by
  induction r with
  | zero => intro i acc m f l _ _ h; omega
  | succ r ih =>
    intro i acc m f l hm h0 _ hf
    obtain ⟨f, rfl⟩ : ∃ g, f = g + 1 := ⟨f - 1, by omega⟩
    unfold eNumF
    by_cases hlt : m < 128
    · rw [if_pos hlt, List.cons_append, List.nil_append]
      unfold pNumF
      rw [b8_toNat m (by omega), if_neg (by omega), if_pos hlt, Nat.mod_eq_of_lt hlt]
    · rw [if_neg hlt, List.cons_append]
      unfold pNumF
      rw [b8_toNat _ (by omega), if_neg (by omega), if_neg (by omega)]
      have hr : 0 < r := by
        rcases r with _ | r
        · simp at hm; omega
        · omega
      rw [ih (i + 1) _ (m / 128) f l (by rw [Nat.pow_succ] at hm; omega) (Or.inr (by omega)) hr (by omega)]
      rw [show (128 + m % 128) % 128 = m % 128 from by omega, acc_step]
theorem pNumF_sound (r : Nat) : ∀ (i acc n : Nat) (b l : List UInt8), pNumF r i acc b = some (n, l) → ∃ m, n = acc + m * 128 ^ i ∧ m < 128 ^ r ∧ (i = 0 ∨ 0 < m) ∧ ∀ f, r ≤ f → b = eNumF f m ++ l := by
  induction r with
  | zero => intro i acc n b l h; simp [pNumF] at h
  | succ r ih =>
    intro i acc n b l h
    cases b with
    | nil => simp [pNumF] at h
    | cons c b =>
      unfold pNumF at h
      have hc := c.toNat_lt
      by_cases h0 : c.toNat = 0 ∧ 0 < i
      · rw [if_pos h0] at h; cases h
      · rw [if_neg h0] at h
        by_cases hlt : c.toNat < 128
        · rw [if_pos hlt] at h
          simp only [Option.some.injEq, Prod.mk.injEq] at h
          obtain ⟨h1, rfl⟩ := h
          refine ⟨c.toNat, by rw [← h1, Nat.mod_eq_of_lt hlt], ?_, by omega, ?_⟩
          · have : 128 ^ 1 ≤ 128 ^ (r + 1) := Nat.pow_le_pow_right (by decide) (by omega)
            omega
          · intro f hf
            obtain ⟨f, rfl⟩ : ∃ g, f = g + 1 := ⟨f - 1, by omega⟩
            unfold eNumF
            rw [if_pos hlt, List.cons_append, List.nil_append, b8_of]
        · rw [if_neg hlt] at h
          obtain ⟨m, h1, h2, h3, h4⟩ := ih _ _ _ _ _ h
          have hm : 0 < m := by omega
          refine ⟨c.toNat % 128 + 128 * m, ?_, by rw [Nat.pow_succ]; omega, by omega, ?_⟩
          · rw [h1, ← acc_step acc (c.toNat % 128 + 128 * m) i]
            rw [show (c.toNat % 128 + 128 * m) % 128 = c.toNat % 128 from by omega, show (c.toNat % 128 + 128 * m) / 128 = m from by omega]
          · intro f hf
            obtain ⟨f, rfl⟩ : ∃ g, f = g + 1 := ⟨f - 1, by omega⟩
            unfold eNumF
            rw [if_neg (by omega), List.cons_append, h4 f (by omega)]
            rw [show (c.toNat % 128 + 128 * m) / 128 = m from by omega]
            rw [← b8_eq _ c (by omega)]
theorem rNumF_e (r : Nat) : ∀ (i acc m f : Nat) (l : List UInt8), m < 128 ^ r → 0 < r → r ≤ f → rNumF r i acc (eNumF f m ++ l) = (acc + m * 128 ^ i, l) := by
  induction r with
  | zero => intro i acc m f l _ h; omega
  | succ r ih =>
    intro i acc m f l hm _ hf
    obtain ⟨f, rfl⟩ : ∃ g, f = g + 1 := ⟨f - 1, by omega⟩
    unfold eNumF
    by_cases hlt : m < 128
    · rw [if_pos hlt, List.cons_append, List.nil_append]
      unfold rNumF
      rw [b8_toNat m (by omega), if_pos hlt, Nat.mod_eq_of_lt hlt]
    · rw [if_neg hlt, List.cons_append]
      unfold rNumF
      rw [b8_toNat _ (by omega), if_neg (by omega)]
      have hr : 0 < r := by
        rcases r with _ | r
        · simp at hm; omega
        · omega
      rw [ih (i + 1) _ (m / 128) f l (by rw [Nat.pow_succ] at hm; omega) hr (by omega)]
      rw [show (128 + m % 128) % 128 = m % 128 from by omega, acc_step]
theorem pNum_e (n : Nat) (l : List UInt8) (h : n < 268435456) : pNum (eNum n ++ l) = some (n, l) := by
  have := pNumF_e 4 0 0 n 10 l (by omega) (Or.inl rfl) (by omega) (by omega)
  simpa [pNum, eNum] using this
theorem rNum_e (n : Nat) (l : List UInt8) (h : n < 268435456) : rNum (eNum n ++ l) = (n, l) := by
  have := rNumF_e 5 0 0 n 10 l (by omega) (by omega) (by omega)
  simpa [rNum, eNum] using this
theorem pNum_sound (n : Nat) (b l : List UInt8) (h : pNum b = some (n, l)) : b = eNum n ++ l ∧ n < 268435456 := by
  obtain ⟨m, h1, h2, _, h4⟩ := pNumF_sound 4 0 0 n b l h
  simp at h1
  subst h1
  exact ⟨h4 10 (by omega), by omega⟩

/-! ### Four bytes -/
def e4 (n : Nat) : List UInt8 := [b8 (n / 16777216 % 256), b8 (n / 65536 % 256), b8 (n / 256 % 256), b8 (n % 256)]
def p4 : List UInt8 → Option (Nat × List UInt8)
  | a :: b :: c :: d :: l => some (a.toNat * 16777216 + b.toNat * 65536 + c.toNat * 256 + d.toNat, l)
  | _ => none
theorem p4_e (n : Nat) (l : List UInt8) (h : n < 4294967296) : p4 (e4 n ++ l) = some (n, l) := by
  simp only [e4, List.cons_append, List.nil_append, p4]
  rw [b8_toNat _ (by omega), b8_toNat _ (by omega), b8_toNat _ (by omega), b8_toNat _ (by omega)]
  simp only [Option.some.injEq, Prod.mk.injEq, and_true]
  omega
theorem p4_sound (n : Nat) (b l : List UInt8) (h : p4 b = some (n, l)) : b = e4 n ++ l ∧ n < 4294967296 := by
  match b, h with
  | a :: b :: c :: d :: l', h =>
    have ha := a.toNat_lt
    have hb := b.toNat_lt
    have hc := c.toNat_lt
    have hd := d.toNat_lt
    simp only [p4, Option.some.injEq, Prod.mk.injEq] at h
    obtain ⟨h1, rfl⟩ := h
    refine ⟨?_, by omega⟩
    simp only [e4, List.cons_append, List.nil_append]
    rw [← b8_eq (n / 16777216 % 256) a (by omega), ← b8_eq (n / 65536 % 256) b (by omega), ← b8_eq (n / 256 % 256) c (by omega), ← b8_eq (n % 256) d (by omega)]

/-! ### Paths -/
/-- The bit that a sign stands for; 0 where there is none. -/
def bit (s : List UInt8) (i : Nat) : Nat := if s[i]? = some 49 then 1 else 0
theorem bit_le (s : List UInt8) (i : Nat) : bit s i ≤ 1 := by unfold bit; split <;> omega
/-- The byte number j of a path's bits. -/
def packB (s : List UInt8) (j : Nat) : Nat :=
  bit s (8 * j) * 128 + bit s (8 * j + 1) * 64 + bit s (8 * j + 2) * 32 + bit s (8 * j + 3) * 16 + bit s (8 * j + 4) * 8 + bit s (8 * j + 5) * 4 + bit s (8 * j + 6) * 2 + bit s (8 * j + 7)
theorem packB_lt (s : List UInt8) (j : Nat) : packB s j < 256 := by
  unfold packB
  have h0 := bit_le s (8 * j); have h1 := bit_le s (8 * j + 1); have h2 := bit_le s (8 * j + 2); have h3 := bit_le s (8 * j + 3)
  have h4 := bit_le s (8 * j + 4); have h5 := bit_le s (8 * j + 5); have h6 := bit_le s (8 * j + 6); have h7 := bit_le s (8 * j + 7)
  omega
def pack (s : List UInt8) : List UInt8 := (List.range ((s.length + 7) / 8)).map fun j => b8 (packB s j)
/-- Bit i of packed bytes. -/
def bitAt (p : List UInt8) (i : Nat) : Nat := (p.getD (i / 8) 0).toNat / 2 ^ (7 - i % 8) % 2
def sign (p : List UInt8) (i : Nat) : UInt8 := b8 (48 + bitAt p i)
def signs (n : Nat) (p : List UInt8) : List UInt8 := (List.range n).map (sign p)
def isP (s : List UInt8) : Prop := (∀ c, c ∈ s → c = 48 ∨ c = 49) ∧ s.length ≤ 37
def ePath (s : List UInt8) : List UInt8 := eNum s.length ++ pack s
def pPath (b : List UInt8) : Option (List UInt8 × List UInt8) :=
  match pNum b with
  | none => none
  | some (n, l) =>
    if 37 < n then none
    else if l.length < (n + 7) / 8 then none
    else if (49 : UInt8) ∈ (signs (8 * ((n + 7) / 8)) (l.take ((n + 7) / 8))).drop n then none
    else some ((signs (8 * ((n + 7) / 8)) (l.take ((n + 7) / 8))).take n, l.drop ((n + 7) / 8))

theorem signs_length (n : Nat) (p : List UInt8) : (signs n p).length = n := by simp [signs]
theorem signs_get (n : Nat) (p : List UInt8) (i : Nat) : (signs n p)[i]? = if i < n then some (sign p i) else none := by
  unfold signs
  rw [List.getElem?_map]
  by_cases h : i < n
  · rw [List.getElem?_range h, if_pos h]; rfl
  · rw [List.getElem?_eq_none (by simp; omega), if_neg h]; rfl
theorem bitAt_le (p : List UInt8) (i : Nat) : bitAt p i ≤ 1 := by unfold bitAt; omega
theorem sign_one (p : List UInt8) (i : Nat) : sign p i = 49 ↔ bitAt p i = 1 := by
  have h := bitAt_le p i
  unfold sign
  constructor
  · intro e
    have := b8_toNat (48 + bitAt p i) (by omega)
    rw [e] at this
    have h49 : (49 : UInt8).toNat = 49 := rfl
    omega
  · intro e
    rw [e]
    rfl
theorem sign_or (p : List UInt8) (i : Nat) : sign p i = 48 ∨ sign p i = 49 := by
  have h := bitAt_le p i
  by_cases e : bitAt p i = 1
  · exact Or.inr ((sign_one p i).2 e)
  · refine Or.inl ?_
    unfold sign
    rw [show bitAt p i = 0 from by omega]
    rfl
theorem bit_signs (n : Nat) (p : List UInt8) (i : Nat) : bit (signs n p) i = if i < n then bitAt p i else 0 := by
  have h := bitAt_le p i
  unfold bit
  rw [signs_get]
  by_cases hn : i < n
  · rw [if_pos hn, if_pos hn]
    by_cases e : bitAt p i = 1
    · rw [(sign_one p i).2 e, if_pos rfl, e]
    · rw [if_neg (by intro h'; exact e ((sign_one p i).1 (Option.some.inj h')))]
      omega
  · rw [if_neg hn, if_neg hn, if_neg (by intro h'; cases h')]
theorem bit_take (s : List UInt8) (n i : Nat) : bit (s.take n) i = if i < n then bit s i else 0 := by
  unfold bit
  rw [List.getElem?_take]
  by_cases h : i < n
  · rw [if_pos h, if_pos h]
  · rw [if_neg h, if_neg h, if_neg (by intro h'; cases h')]
theorem pack_length (s : List UInt8) : (pack s).length = (s.length + 7) / 8 := by simp [pack]
theorem pack_getD (s : List UInt8) (j : Nat) (h : j < (s.length + 7) / 8) : ((pack s).getD j 0).toNat = packB s j := by
  unfold pack
  rw [List.getD_eq_getElem?_getD, List.getElem?_map, List.getElem?_range h, Option.map_some, Option.getD_some]
  exact b8_toNat _ (packB_lt s j)
theorem bit_out (s : List UInt8) (i : Nat) (h : s.length ≤ i) : bit s i = 0 := by
  unfold bit
  rw [List.getElem?_eq_none h, if_neg (by intro h'; cases h')]
theorem pick8 (v a0 a1 a2 a3 a4 a5 a6 a7 k : Nat) (h0 : a0 ≤ 1) (h1 : a1 ≤ 1) (h2 : a2 ≤ 1) (h3 : a3 ≤ 1) (h4 : a4 ≤ 1) (h5 : a5 ≤ 1) (h6 : a6 ≤ 1) (h7 : a7 ≤ 1)
    (hv : v = a0 * 128 + a1 * 64 + a2 * 32 + a3 * 16 + a4 * 8 + a5 * 4 + a6 * 2 + a7) (hk : k < 8) :
    v / 2 ^ (7 - k) % 2 = [a0, a1, a2, a3, a4, a5, a6, a7].getD k 0 := by
  match k, hk with
  | 0, _ => simp; omega
  | 1, _ => simp; omega
  | 2, _ => simp; omega
  | 3, _ => simp; omega
  | 4, _ => simp; omega
  | 5, _ => simp; omega
  | 6, _ => simp; omega
  | 7, _ => simp; omega
theorem bitAt_pack (s : List UInt8) (i : Nat) (h : i / 8 < (s.length + 7) / 8) : bitAt (pack s) i = bit s i := by
  unfold bitAt
  rw [pack_getD s _ h]
  have hb := bit_le s
  rw [pick8 (packB s (i / 8)) _ _ _ _ _ _ _ _ (i % 8) (hb _) (hb _) (hb _) (hb _) (hb _) (hb _) (hb _) (hb _) rfl (by omega)]
  have e : ∀ k, i % 8 = k → 8 * (i / 8) + k = i := fun k hk => by omega
  have hm : i % 8 < 8 := by omega
  generalize hk : i % 8 = k at *
  match k, hm with
  | 0, _ => simp; congr 1; omega
  | 1, _ => simp; congr 1; omega
  | 2, _ => simp; congr 1; omega
  | 3, _ => simp; congr 1; omega
  | 4, _ => simp; congr 1; omega
  | 5, _ => simp; congr 1; omega
  | 6, _ => simp; congr 1; omega
  | 7, _ => simp; congr 1; omega
theorem split8 (v : Nat) (h : v < 256) : v / 128 % 2 * 128 + v / 64 % 2 * 64 + v / 32 % 2 * 32 + v / 16 % 2 * 16 + v / 8 % 2 * 8 + v / 4 % 2 * 4 + v / 2 % 2 * 2 + v % 2 = v := by omega
/-- A byte is what its bits make. -/
theorem packB_of (s p : List UInt8) (j : Nat) (h : ∀ k, k < 8 → bit s (8 * j + k) = bitAt p (8 * j + k)) : packB s j = (p.getD j 0).toNat := by
  unfold packB
  rw [show 8 * j = 8 * j + 0 from rfl]
  rw [h 0 (by omega), show 8 * j + 0 + 1 = 8 * j + 1 from rfl, h 1 (by omega), h 2 (by omega), h 3 (by omega), h 4 (by omega), h 5 (by omega), h 6 (by omega), h 7 (by omega)]
  unfold bitAt
  have hd : ∀ k, k < 8 → (8 * j + k) / 8 = j := fun k hk => by omega
  have hm : ∀ k, k < 8 → (8 * j + k) % 8 = k := fun k hk => by omega
  rw [hd 0 (by omega), hd 1 (by omega), hd 2 (by omega), hd 3 (by omega), hd 4 (by omega), hd 5 (by omega), hd 6 (by omega), hd 7 (by omega)]
  rw [hm 0 (by omega), hm 1 (by omega), hm 2 (by omega), hm 3 (by omega), hm 4 (by omega), hm 5 (by omega), hm 6 (by omega), hm 7 (by omega)]
  have hv := (p.getD j 0).toNat_lt
  have := split8 (p.getD j 0).toNat (by omega)
  simpa using this
theorem isP_bit (s : List UInt8) (h : isP s) (i : Nat) (hi : i < s.length) : s[i]? = some (b8 (48 + bit s i)) := by
  have hm := h.1 s[i] (List.getElem_mem hi)
  rw [List.getElem?_eq_getElem hi]
  unfold bit
  rw [List.getElem?_eq_getElem hi]
  rcases hm with e | e
  · rw [e, if_neg (by decide)]; rfl
  · rw [e, if_pos rfl]; rfl
theorem signs_pack (s : List UInt8) (h : isP s) : (signs (8 * ((s.length + 7) / 8)) (pack s)).take s.length = s := by
  apply List.ext_getElem?
  intro i
  rw [List.getElem?_take]
  by_cases hi : i < s.length
  · rw [if_pos hi, signs_get, if_pos (by omega), isP_bit s h i hi]
    unfold sign
    rw [bitAt_pack s i (by omega)]
  · rw [if_neg hi, List.getElem?_eq_none (by omega)]
theorem signs_rest (s : List UInt8) : (49 : UInt8) ∉ (signs (8 * ((s.length + 7) / 8)) (pack s)).drop s.length := by
  intro hm
  obtain ⟨i, hi, e⟩ := List.mem_iff_getElem.1 hm
  have e2 : ((signs (8 * ((s.length + 7) / 8)) (pack s)).drop s.length)[i]? = some 49 := by rw [List.getElem?_eq_getElem hi, e]
  rw [List.getElem?_drop, signs_get] at e2
  by_cases hn : s.length + i < 8 * ((s.length + 7) / 8)
  · rw [if_pos hn] at e2
    have := (sign_one _ _).1 (Option.some.inj e2)
    rw [bitAt_pack s _ (by omega), bit_out s _ (by omega)] at this
    omega
  · rw [if_neg hn] at e2; cases e2
theorem pPath_e (s l : List UInt8) (h : isP s) : pPath (ePath s ++ l) = some (s, l) := by
  unfold pPath ePath
  have h37 := h.2
  rw [List.append_assoc, pNum_e _ _ (by omega)]
  simp only
  have hp := pack_length s
  rw [if_neg (by omega), if_neg (by rw [List.length_append]; omega)]
  rw [← hp, List.take_left, List.drop_left, hp, if_neg (signs_rest s), signs_pack s h]
theorem pack_signs (n : Nat) (p : List UInt8) (hp : p.length = (n + 7) / 8) (h : (49 : UInt8) ∉ (signs (8 * ((n + 7) / 8)) p).drop n) :
    pack ((signs (8 * ((n + 7) / 8)) p).take n) = p := by
  have hlen : ((signs (8 * ((n + 7) / 8)) p).take n).length = n := by rw [List.length_take, signs_length]; omega
  have hz : ∀ i, n ≤ i → i < 8 * ((n + 7) / 8) → bitAt p i = 0 := by
    intro i h1 h2
    have := bitAt_le p i
    by_cases e : bitAt p i = 1
    · exfalso
      apply h
      refine List.mem_of_getElem? (i := i - n) ?_
      rw [List.getElem?_drop, signs_get, if_pos (by omega), show n + (i - n) = i from by omega, (sign_one p i).2 e]
    · omega
  apply List.ext_getElem?
  intro j
  unfold pack
  rw [hlen, List.getElem?_map]
  by_cases hj : j < (n + 7) / 8
  · rw [List.getElem?_range hj, Option.map_some, packB_of _ p j ?_]
    · rw [b8_of, List.getD_eq_getElem?_getD, List.getElem?_eq_getElem (by omega), Option.getD_some]
    · intro k hk
      rw [bit_take, bit_signs]
      by_cases hn : 8 * j + k < n
      · rw [if_pos hn, if_pos (by omega)]
      · rw [if_neg hn, hz _ (by omega) (by omega)]
  · rw [List.getElem?_eq_none (by simp; omega), Option.map_none, List.getElem?_eq_none (by omega)]
theorem pPath_sound (b s l : List UInt8) (h : pPath b = some (s, l)) : b = ePath s ++ l ∧ isP s := by
  unfold pPath at h
  cases hn : pNum b with
  | none => rw [hn] at h; cases h
  | some x =>
    obtain ⟨n, l'⟩ := x
    rw [hn] at h
    simp only at h
    obtain ⟨hb, _⟩ := pNum_sound n b l' hn
    by_cases h37 : 37 < n
    · rw [if_pos h37] at h; cases h
    · rw [if_neg h37] at h
      by_cases hl : l'.length < (n + 7) / 8
      · rw [if_pos hl] at h; cases h
      · rw [if_neg hl] at h
        by_cases hc : (49 : UInt8) ∈ (signs (8 * ((n + 7) / 8)) (l'.take ((n + 7) / 8))).drop n
        · rw [if_pos hc] at h; cases h
        · rw [if_neg hc] at h
          simp only [Option.some.injEq, Prod.mk.injEq] at h
          obtain ⟨h1, h2⟩ := h
          have hlen : s.length = n := by rw [← h1, List.length_take, signs_length]; omega
          have hp := pack_signs n (l'.take ((n + 7) / 8)) (by rw [List.length_take]; omega) hc
          rw [h1] at hp
          refine ⟨?_, ?_, by omega⟩
          · unfold ePath
            rw [hp, hlen, List.append_assoc, ← h2, List.take_append_drop]
            exact hb
          · intro c hc'
            rw [← h1] at hc'
            have := List.mem_of_mem_take hc'
            unfold signs at this
            obtain ⟨i, _, rfl⟩ := List.mem_map.1 this
            exact sign_or _ i

/-! ### Values -/
def pVal (b : List UInt8) : Option (List UInt8 × List UInt8) :=
  match pNum b with
  | none => none
  | some (n, l) => if 20 < n then none else if l.length < n then none else some (l.take n, l.drop n)
def eVal (v : List UInt8) : List UInt8 := eNum v.length ++ v
theorem pVal_e (v l : List UInt8) (h : v.length ≤ 20) : pVal (eVal v ++ l) = some (v, l) := by
  unfold pVal eVal
  rw [List.append_assoc, pNum_e _ _ (by omega)]
  simp only
  rw [if_neg (by omega), if_neg (by rw [List.length_append]; omega), List.take_left, List.drop_left]
theorem pVal_sound (b v l : List UInt8) (h : pVal b = some (v, l)) : b = eVal v ++ l ∧ v.length ≤ 20 := by
  unfold pVal at h
  cases hn : pNum b with
  | none => rw [hn] at h; cases h
  | some x =>
    obtain ⟨n, l'⟩ := x
    rw [hn] at h
    simp only at h
    obtain ⟨hb, _⟩ := pNum_sound n b l' hn
    by_cases h20 : 20 < n
    · rw [if_pos h20] at h; cases h
    · rw [if_neg h20] at h
      by_cases hl : l'.length < n
      · rw [if_pos hl] at h; cases h
      · rw [if_neg hl] at h
        simp only [Option.some.injEq, Prod.mk.injEq] at h
        obtain ⟨h1, h2⟩ := h
        have hlen : v.length = n := by rw [← h1, List.length_take]; omega
        refine ⟨?_, by omega⟩
        unfold eVal
        rw [hlen, List.append_assoc, ← h1, ← h2, List.take_append_drop]
        exact hb

/-! ### Nodes -/
structure Nd where
  kind : Int
  path : List UInt8
  value : List UInt8
  left : Int
  right : Int
  deriving DecidableEq
def isPb (s : List UInt8) : Bool := s.all (fun c => c == 48 || c == 49) && decide (s.length ≤ 37)
theorem isPb_iff (s : List UInt8) : isPb s = true ↔ isP s := by
  simp [isPb, isP]
def is32 (n : Int) : Bool := decide (0 ≤ n ∧ n < 4294967296)
def empty : Nd := ⟨2, [], [], 0, 0⟩
/-- What a node is written as, if it has bytes. -/
def encN (n : Nd) : Option (List UInt8) :=
  if n = empty then some [2]
  else if n.kind = 0 ∧ isPb n.path = true ∧ n.value.length ≤ 20 ∧ n.left = 0 ∧ n.right = 0 then some (0 :: (ePath n.path ++ eVal n.value))
  else if n.kind = 1 ∧ isPb n.path = true ∧ n.value = [] ∧ is32 n.left = true ∧ is32 n.right = true then some (1 :: (ePath n.path ++ (e4 n.left.toNat ++ e4 n.right.toNat)))
  else none
def pLeaf (l : List UInt8) : Option (Nd × List UInt8) :=
  match pPath l with
  | none => none
  | some (p, l1) => match pVal l1 with
    | none => none
    | some (v, l2) => some (⟨0, p, v, 0, 0⟩, l2)
def pBranch (l : List UInt8) : Option (Nd × List UInt8) :=
  match pPath l with
  | none => none
  | some (p, l1) => match p4 l1 with
    | none => none
    | some (x, l2) => match p4 l2 with
      | none => none
      | some (y, l3) => some (⟨1, p, [], x, y⟩, l3)
def pNode : List UInt8 → Option (Nd × List UInt8)
  | [] => none
  | c :: l => if c = 0 then pLeaf l else if c = 1 then pBranch l else if c = 2 then some (empty, l) else none
def decN (b : List UInt8) : Option Nd :=
  match pNode b with
  | some (n, []) => some n
  | _ => none
theorem encN_pNode (n : Nd) (b l : List UInt8) (h : encN n = some b) : pNode (b ++ l) = some (n, l) := by
  unfold encN at h
  by_cases h0 : n = empty
  · rw [if_pos h0] at h; cases h; subst h0; rfl
  · rw [if_neg h0] at h
    by_cases h1 : n.kind = 0 ∧ isPb n.path = true ∧ n.value.length ≤ 20 ∧ n.left = 0 ∧ n.right = 0
    · rw [if_pos h1] at h
      cases h
      obtain ⟨k, p, v, x, y⟩ := n
      simp only at h1
      obtain ⟨rfl, hp, hv, rfl, rfl⟩ := h1
      simp only [List.cons_append, List.append_assoc, pNode, if_true, pLeaf]
      rw [pPath_e _ _ ((isPb_iff p).1 hp)]
      simp only
      rw [pVal_e _ _ hv]
    · rw [if_neg h1] at h
      by_cases h2 : n.kind = 1 ∧ isPb n.path = true ∧ n.value = [] ∧ is32 n.left = true ∧ is32 n.right = true
      · rw [if_pos h2] at h
        cases h
        obtain ⟨k, p, v, x, y⟩ := n
        simp only at h2
        obtain ⟨rfl, hp, rfl, hx, hy⟩ := h2
        simp only [is32, decide_eq_true_eq] at hx hy
        simp only [List.cons_append, List.append_assoc, pNode, pBranch]
        rw [if_neg (by decide), if_pos trivial, pPath_e _ _ ((isPb_iff p).1 hp)]
        simp only
        rw [p4_e _ _ (by omega)]
        simp only
        rw [p4_e _ _ (by omega)]
        simp only [Option.some.injEq, Prod.mk.injEq, Nd.mk.injEq, and_true, true_and]
        omega
      · rw [if_neg h2] at h; cases h
theorem pNode_sound (n : Nd) (b l : List UInt8) (h : pNode b = some (n, l)) : ∃ c, encN n = some c ∧ b = c ++ l := by
  match b, h with
  | c :: b, h =>
    unfold pNode at h
    simp only at h
    by_cases h0 : c = 0
    · rw [if_pos h0] at h
      unfold pLeaf at h
      cases hp : pPath b with
      | none => rw [hp] at h; cases h
      | some x =>
        obtain ⟨p, l1⟩ := x
        rw [hp] at h
        simp only at h
        cases hv : pVal l1 with
        | none => rw [hv] at h; cases h
        | some y =>
          obtain ⟨v, l2⟩ := y
          rw [hv] at h
          simp only [Option.some.injEq, Prod.mk.injEq] at h
          obtain ⟨rfl, rfl⟩ := h
          obtain ⟨e1, i1⟩ := pPath_sound _ _ _ hp
          obtain ⟨e2, i2⟩ := pVal_sound _ _ _ hv
          refine ⟨0 :: (ePath p ++ eVal v), ?_, by rw [h0, e1, e2]; simp⟩
          unfold encN
          rw [if_neg (by simp [empty]), if_pos ⟨rfl, (isPb_iff p).2 i1, i2, rfl, rfl⟩]
    · rw [if_neg h0] at h
      by_cases h1 : c = 1
      · rw [if_pos h1] at h
        unfold pBranch at h
        cases hp : pPath b with
        | none => rw [hp] at h; cases h
        | some x =>
          obtain ⟨p, l1⟩ := x
          rw [hp] at h
          simp only at h
          cases hx : p4 l1 with
          | none => rw [hx] at h; cases h
          | some y =>
            obtain ⟨x, l2⟩ := y
            rw [hx] at h
            simp only at h
            cases hy : p4 l2 with
            | none => rw [hy] at h; cases h
            | some z =>
              obtain ⟨y, l3⟩ := z
              rw [hy] at h
              simp only [Option.some.injEq, Prod.mk.injEq] at h
              obtain ⟨rfl, rfl⟩ := h
              obtain ⟨e1, i1⟩ := pPath_sound _ _ _ hp
              obtain ⟨e2, i2⟩ := p4_sound _ _ _ hx
              obtain ⟨e3, i3⟩ := p4_sound _ _ _ hy
              refine ⟨1 :: (ePath p ++ (e4 x ++ e4 y)), ?_, by rw [h1, e1, e2, e3]; simp⟩
              unfold encN
              rw [if_neg (by simp [empty]), if_neg (by simp), if_pos ⟨rfl, (isPb_iff p).2 i1, rfl, by simp [is32]; omega, by simp [is32]; omega⟩]
              simp
      · rw [if_neg h1] at h
        by_cases h2 : c = 2
        · rw [if_pos h2] at h
          simp only [Option.some.injEq, Prod.mk.injEq] at h
          obtain ⟨rfl, rfl⟩ := h
          exact ⟨[2], rfl, by rw [h2]; rfl⟩
        · rw [if_neg h2] at h; cases h
theorem decN_e (n : Nd) (b : List UInt8) (h : encN n = some b) : decN b = some n := by
  have := encN_pNode n b [] h
  rw [List.append_nil] at this
  unfold decN
  rw [this]
theorem decN_sound (n : Nd) (b : List UInt8) (h : decN b = some n) : encN n = some b := by
  unfold decN at h
  cases hp : pNode b with
  | none => rw [hp] at h; cases h
  | some x =>
    obtain ⟨m, l⟩ := x
    rw [hp] at h
    cases l with
    | nil =>
      simp only [Option.some.injEq] at h
      subst h
      obtain ⟨c, h1, h2⟩ := pNode_sound _ _ _ hp
      rw [List.append_nil] at h2
      rw [h2]
      exact h1
    | cons c l => cases h

/-! ### Reading, whatever the form -/
def rPath (b : List UInt8) : List UInt8 × List UInt8 :=
  let n := min (rNum b).1 1000
  (signs n ((rNum b).2.take ((n + 7) / 8)), (rNum b).2.drop ((n + 7) / 8))
def r4 (b : List UInt8) : Nat × List UInt8 := ((b.getD 0 0).toNat * 16777216 + (b.getD 1 0).toNat * 65536 + (b.getD 2 0).toNat * 256 + (b.getD 3 0).toNat, b.drop 4)
def rNode (b : List UInt8) : Nd × List UInt8 :=
  let k := (b.getD 0 0).toNat
  let l := b.drop 1
  if k = 0 then (⟨0, (rPath l).1, (rNum (rPath l).2).2.take (rNum (rPath l).2).1, 0, 0⟩, (rNum (rPath l).2).2.drop (rNum (rPath l).2).1)
  else if k = 1 then (⟨1, (rPath l).1, [], (r4 (rPath l).2).1, (r4 (r4 (rPath l).2).2).1⟩, (r4 (r4 (rPath l).2).2).2)
  else (⟨k, [], [], 0, 0⟩, l)
theorem rPath_e (s l : List UInt8) (h : isP s) : rPath (ePath s ++ l) = (s, l) := by
  unfold rPath ePath
  have h37 := h.2
  rw [List.append_assoc, rNum_e _ _ (by omega)]
  simp only
  have hp := pack_length s
  rw [Nat.min_eq_left (by omega), ← hp, List.take_left, List.drop_left]
  congr 1
  apply List.ext_getElem?
  intro i
  rw [signs_get]
  by_cases hi : i < s.length
  · rw [if_pos hi, isP_bit s h i hi]
    unfold sign
    rw [bitAt_pack s i (by omega)]
  · rw [if_neg hi, List.getElem?_eq_none (by omega)]
theorem r4_e (n : Nat) (l : List UInt8) (h : n < 4294967296) : r4 (e4 n ++ l) = (n, l) := by
  simp only [r4, e4, List.cons_append, List.nil_append, List.getD_cons_zero, List.getD_cons_succ, List.drop_succ_cons, List.drop_zero]
  rw [b8_toNat _ (by omega), b8_toNat _ (by omega), b8_toNat _ (by omega), b8_toNat _ (by omega)]
  simp only [Prod.mk.injEq, and_true]
  omega
theorem rNode_e (n : Nd) (b l : List UInt8) (h : encN n = some b) : rNode (b ++ l) = (n, l) := by
  unfold encN at h
  by_cases h0 : n = empty
  · rw [if_pos h0] at h; cases h; subst h0; rfl
  · rw [if_neg h0] at h
    by_cases h1 : n.kind = 0 ∧ isPb n.path = true ∧ n.value.length ≤ 20 ∧ n.left = 0 ∧ n.right = 0
    · rw [if_pos h1] at h
      cases h
      obtain ⟨k, p, v, x, y⟩ := n
      simp only at h1
      obtain ⟨rfl, hp, hv, rfl, rfl⟩ := h1
      simp only [List.cons_append, List.append_assoc, rNode, List.getD_cons_zero, List.drop_succ_cons, List.drop_zero]
      rw [if_pos (by decide), rPath_e _ _ ((isPb_iff p).1 hp)]
      simp only [eVal, List.append_assoc]
      rw [rNum_e _ _ (by omega)]
      simp
    · rw [if_neg h1] at h
      by_cases h2 : n.kind = 1 ∧ isPb n.path = true ∧ n.value = [] ∧ is32 n.left = true ∧ is32 n.right = true
      · rw [if_pos h2] at h
        cases h
        obtain ⟨k, p, v, x, y⟩ := n
        simp only at h2
        obtain ⟨rfl, hp, rfl, hx, hy⟩ := h2
        simp only [is32, decide_eq_true_eq] at hx hy
        simp only [List.cons_append, List.append_assoc, rNode, List.getD_cons_zero, List.drop_succ_cons, List.drop_zero]
        rw [if_neg (by decide), if_pos (by decide), rPath_e _ _ ((isPb_iff p).1 hp)]
        simp only
        rw [r4_e _ _ (by omega)]
        simp only
        rw [r4_e _ _ (by omega)]
        simp only [Prod.mk.injEq, Nd.mk.injEq, and_true, true_and]
        omega
      · rw [if_neg h2] at h; cases h
end Go.Proofs.YtddcbeeldjjmeaaGreatDoor.Pu
