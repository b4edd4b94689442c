/- The program's reader: paths and values. -/
import Derived.Test.YtddcbeeldjjmeaaGreatDoorLib
import Derived.Test.YtddcbeeldjjmeaaGreatDoorBytes
import Derived.Lib.MinMax
namespace Go.Proofs.YtddcbeeldjjmeaaGreatDoor.Tw
open Go.RowKit Go.Proofs.YtddcbeeldjjmeaaGreatDoor.Pu
set_option linter.unusedVariables false
set_option linter.unusedSimpArgs false

theorem within_any (n lo hi : Int) (w : World) (h0 : lo ≤ hi) :
    Calls Tryz.prog 131 #[.int .i64 n, .int .i64 lo, .int .i64 hi] w fun e w' => e = .returned (.bool (decide (lo ≤ n ∧ n ≤ hi))) ∧ w' = w := by
  go_enter Tryz.func131, Tryz.ntmps131
  go_wp2
  go_ret
  refine ⟨ret_bool ?_, rfl⟩
  rw [Bool.eq_iff_iff]
  simp
  omega
theorem bits_any (n : Int) (b : Bool) (w : World) (h : b = decide (0 ≤ n ∧ n ≤ 37)) :
    Calls Tryz.prog 234 #[.int .i64 n] w fun e w' => e = .returned (.bool b) ∧ w' = w := by
  have hk := within_any n 0 37 w (by omega)
  rw [← h] at hk
  clear h
  go_enter Tryz.func234, Tryz.ntmps234
  go_wp2_with (go_at_call 131; refine hk.mono ?_; rintro e w' ⟨rfl, rfl⟩)
  go_ret
  exact ⟨rfl, rfl⟩
theorem length_any (n : Int) (b : Bool) (w : World) (h : b = decide (0 ≤ n ∧ n ≤ 20)) :
    Calls Tryz.prog 80 #[.int .i64 n] w fun e w' => e = .returned (.bool b) ∧ w' = w := by
  have hk := within_any n 0 20 w (by omega)
  rw [← h] at hk
  clear h
  go_enter Tryz.func80, Tryz.ntmps80
  go_wp2_with (go_at_call 131; refine hk.mono ?_; rintro e w' ⟨rfl, rfl⟩)
  go_ret
  exact ⟨rfl, rfl⟩

/-- The row of signs, k of them laid. -/
def rowAt (n : Nat) (p : List UInt8) (k : Nat) : List UInt8 := (signs n p).take k ++ List.replicate (n - k) 0
theorem rowAt_zero (n : Nat) (p : List UInt8) : rowAt n p 0 = List.replicate n 0 := by simp [rowAt]
theorem rowAt_full (n : Nat) (p : List UInt8) : rowAt n p n = signs n p := by
  have h := signs_length n p
  simp only [rowAt, Nat.sub_self, List.replicate_zero, List.append_nil]
  exact List.take_of_length_le (by omega)
theorem rowAt_length (n : Nat) (p : List UInt8) (k : Nat) (hk : k ≤ n) : (rowAt n p k).length = n := by
  have h := signs_length n p
  simp [rowAt]; omega
theorem rowAt_set (n : Nat) (p : List UInt8) (k : Nat) (hk : k < n) : (rowAt n p k).set k (sign p k) = rowAt n p (k + 1) := by
  have h := signs_length n p
  apply List.ext_getElem?
  intro i
  unfold rowAt
  rw [List.getElem?_set]
  by_cases hi : k = i
  · subst hi
    rw [if_pos rfl, if_pos (by simp; omega), List.getElem?_append_left (by simp; omega), List.getElem?_take, if_pos (by omega), signs_get, if_pos hk]
  · rw [if_neg hi]
    by_cases hlt : i < k
    · rw [List.getElem?_append_left (by simp; omega), List.getElem?_append_left (by simp; omega), List.getElem?_take, List.getElem?_take, if_pos hlt, if_pos (by omega)]
    · rw [List.getElem?_append_right (by simp; omega), List.getElem?_append_right (by simp; omega)]
      simp only [List.length_take, h, List.getElem?_replicate]
      rw [Nat.min_eq_left (by omega), Nat.min_eq_left (by omega)]
      by_cases hn : i < n
      · rw [if_pos (by omega), if_pos (by omega)]
      · rw [if_neg (by omega), if_neg (by omega)]

theorem sign_code (p : List UInt8) (k : Nat) (h : k / 8 < (S p).size) :
    (48 + Go.bits .and .u8 (((((S p)[k / 8]'h).toNat : Nat) : Int) / 2 ^ (7 - k % 8)) 1) % 256 = ((sign p k).toNat : Int) := by
  have hb := bitAt_le p k
  have hg : ((S p)[k / 8]'h).toNat = (p.getD (k / 8) 0).toNat := by
    rw [S_get]
    rw [List.getD_eq_getElem?_getD, List.getElem?_eq_getElem (by rw [S_size] at h; exact h), Option.getD_some]
  have hv := (p.getD (k / 8) 0).toNat_lt
  have hd : (p.getD (k / 8) 0).toNat / 2 ^ (7 - k % 8) ≤ (p.getD (k / 8) 0).toNat := Nat.div_le_self _ _
  rw [hg]
  unfold sign
  rw [b8_toNat _ (by omega)]
  rw [show (((p.getD (k / 8) 0).toNat : Nat) : Int) / 2 ^ (7 - k % 8) = (((p.getD (k / 8) 0).toNat / 2 ^ (7 - k % 8) : Nat) : Int) from by simp]
  have hu := u8_and_nat ((p.getD (k / 8) 0).toNat / 2 ^ (7 - k % 8)) 1 (by omega) (by omega)
  rw [nat_mask1] at hu
  rw [show (1 : Int) = ((1 : Nat) : Int) from rfl, hu]
  unfold bitAt at hb ⊢
  generalize (p.getD (k / 8) 0).toNat / 2 ^ (7 - k % 8) % 2 = z at *
  omega

theorem u8info : (Tryz.prog.info? 5).map (fun i => (i.zero, i.size, i.bytes)) = some (some (.int .u8 0), 1, 1) := by kernel_rfl

set_option maxRecDepth 20000 in
set_option maxHeartbeats 1000000 in
theorem path_ok (A : Nat → Addr) (rb : Nat) (l r s : List UInt8) (w : World) (hp : pPath l = some (s, r)) (hl : l.length ≤ 9223372036854775807)
    (hc : w.cell? ⟨rb, 0, none⟩ = some (.string (S l))) (hf : w.frozen? ⟨rb, 0, none⟩ = false) :
    Calls Tryz.prog 232 #[.pointer (some ⟨rb, 0, none⟩)] w fun e w' => e = .returned (.tuple #[.string (S s), .nilIface]) ∧ Adv ⟨rb, 0, none⟩ r w w' := by
  unfold pPath at hp
  cases hn : pNum l with
  | none => rw [hn] at hp; cases hp
  | some x =>
    obtain ⟨n, l'⟩ := x
    rw [hn] at hp
    simp only at hp
    by_cases h37 : 37 < n
    · rw [if_pos h37] at hp; cases hp
    · rw [if_neg h37] at hp
      by_cases hsh : l'.length < (n + 7) / 8
      · rw [if_pos hsh] at hp; cases hp
      · rw [if_neg hsh] at hp
        by_cases h49 : (49 : UInt8) ∈ (signs (8 * ((n + 7) / 8)) (l'.take ((n + 7) / 8))).drop n
        · rw [if_pos h49] at hp; cases hp
        · rw [if_neg h49] at hp
          simp only [Option.some.injEq, Prod.mk.injEq] at hp
          obtain ⟨rfl, rfl⟩ := hp
          have hk1 := number_ok rb l l' n w hn hl hc hf
          have hnn := neq_nil
          have hl' : l'.length ≤ 9223372036854775807 := by
            obtain ⟨e, _⟩ := pNum_sound n l l' hn
            rw [e, List.length_append] at hl
            omega
          have hK : (((n : Int) + 7) / 8).toNat = (n + 7) / 8 := by omega
          have hk2 := fun w hc hf => take_ok rb l' (((n : Int) + 7) / 8) w (by omega) (by omega) hl' hc hf
          rw [hK] at hk2
          have HN : Hid _ := hn
          have HA : Hid ((49 : UInt8) ∉ (signs (8 * ((n + 7) / 8)) (l'.take ((n + 7) / 8))).drop n) := h49
          clear hn hK h49
          obtain ⟨p, hp⟩ : ∃ p, p = l'.take ((n + 7) / 8) := ⟨_, rfl⟩
          obtain ⟨r, hr⟩ : ∃ r, r = l'.drop ((n + 7) / 8) := ⟨_, rfl⟩
          have hpl : p.length = (n + 7) / 8 := by rw [hp, List.length_take]; omega
          rw [← hp, ← hr] at hk2 ⊢
          have HA' : Hid _ := HA
          rw [← hp] at HA'
          clear HA
          have HP : Hid _ := hp
          have HR : Hid _ := hr
          clear hp hr hsh
          have hps := S_size p
          have hp5 : p.length ≤ 5 := by omega
          have HPL : Hid _ := hpl
          clear hpl
          obtain ⟨M, hM⟩ : ∃ M, M = madeCells (Value.int .u8 0).cells (8 * p.length) := ⟨_, rfl⟩
          have hmk : ∀ W : World, (Instr.makeSlice 100 (.int .i64 (8 * (p.length : Int))) (.int .i64 (8 * (p.length : Int)))).run Tryz.prog W = .ok (.slice (some ⟨W.heap.size, 0, none⟩) (8 * p.length) (8 * p.length)) (W.alloc (.cells M 5)) := fun W => by
            obtain ⟨i0, hi, hz0, hz1, hz2⟩ := info_parts u8info
            have h := run_make (P := Tryz.prog) W 100 5 i0 (.int .u8 0) Tryz.underlying100 hi hz0 .i64 .i64 (8 * (p.length : Int)) (8 * (p.length : Int)) (by omega) (by omega) (by rw [hz2]; omega) (by omega)
            rw [hz1, show (8 * (p.length : Int)).toNat = 8 * p.length from by omega, Nat.mul_one, ← hM] at h
            exact h
          have HM : Hid _ := hM
          clear hM
          go_enter Tryz.func232, Tryz.ntmps232
          go_wp2_with fail
          refine hk1.mono ?_
          rintro e w1 ⟨rfl, hb1⟩
          have hc1 := hb1.rest
          have hf1 := hb1.mark
          go_wp2_with fail
          refine (bits_any _ true _ (by simp; omega)).mono ?_
          rintro e w' ⟨rfl, rfl⟩
          go_wp2_with fail
          refine (hk2 _ hc1 hf1).mono ?_
          rintro e w2 ⟨rfl, hb2⟩
          have hb3 := hb1.trans hb2
          go_wp2_with fail
          obtain ⟨g, hg⟩ : ∃ g, g = w2.heap.size := ⟨_, rfl⟩
          obtain ⟨wm, hwm⟩ : ∃ wm, wm = w2.alloc (.cells M 5) := ⟨_, rfl⟩
          have hrow : BRow wm g (rowAt (8 * p.length) p 0) := by rw [hwm, hg, rowAt_zero, HM.out]; exact BRow.new w2 _
          have hrb : rb < w2.heap.size := cell_lt hb3.rest
          have hgr : g ≠ rb := by omega
          have hgw : w.heap.size ≤ g := by rw [hg]; exact hb3.size
          have hb4 : Adv ⟨rb, 0, none⟩ r w wm := by rw [hwm]; exact hb3.alloc _ hrb
          rw [← hwm, ← hg]
          clear hg hwm hmk hk2 hc1 hf1 hb1 hb2 hb3 hrb hc hf
          go_loopw [41] (fun i wr => ∃ k : Nat, k ≤ 8 * p.length ∧ i = .int .i64 k ∧ BRow wr g (rowAt (8 * p.length) p k) ∧ Adv ⟨rb, 0, none⟩ r w wr) (fun i _ => 8 * p.length - (intOf i).toNat)
          case atStart => exact ⟨0, by omega, rfl, hrow, hb4⟩
          case round =>
            obtain ⟨k, hk, rfl, hrow', hb5⟩ := hrel
            by_cases hlt : k < 8 * p.length
            · have hmk := hrow'.mark k
              have hcl := hrow'.cell k (by rw [rowAt_length _ _ _ hk]; exact hlt)
              obtain ⟨v0, hv0⟩ : ∃ v0, wr.cell? ⟨g, k, none⟩ = some v0 := ⟨_, hcl⟩
              clear hcl
              have hk8 : k / 8 < p.length := by omega
              go_wp2
              go_roundw
              case rel =>
                refine ⟨k + 1, by omega, by go_num, ?_, ?_⟩
                · rw [← rowAt_set _ _ _ hlt]
                  exact hrow'.set k _ _ (sign_code p k _)
                · exact hb5.setNew _ _ hgw hgr
              case measure => simp [intOf]; omega
            · obtain rfl : k = 8 * p.length := by omega
              rw [rowAt_full] at hrow'
              have hn8 : n ≤ 8 * p.length := by have := HPL.out; omega
              by_cases he : n < 8 * p.length
              · have ht1 := hrow'.text n (8 * p.length - n) (8 * p.length - n) (by rw [signs_length]; omega) (8 * p.length - n) rfl
                have ht2 := hrow'.text 0 n (8 * p.length) (by rw [signs_length]; omega) n rfl
                rw [List.drop_zero] at ht2
                rw [show ((signs (8 * p.length) p).drop n).take (8 * p.length - n) = (signs (8 * p.length) p).drop n from List.take_of_length_le (by rw [List.length_drop, signs_length]; omega)] at ht1
                have hcon := contains_one ((signs (8 * p.length) p).drop n) wr
                have hno : decide ((49 : UInt8) ∈ (signs (8 * p.length) p).drop n) = false := by
                  have h1 := HA'.out
                  rw [← HPL.out] at h1
                  exact decide_eq_false h1
                rw [hno] at hcon
                clear hno
                go_wp2_with (go_at_call 278; refine hcon.mono ?_; rintro e w' ⟨rfl, rfl⟩)
                go_ret2
                rw [← HPL.out]
                exact ⟨rfl, hb5⟩
              · obtain rfl : n = 8 * p.length := by omega
                have ht1 := hrow'.text 0 0 0 (by omega) 0 rfl
                have ht2 := hrow'.text 0 (8 * p.length) (8 * p.length) (by rw [signs_length]; omega) (8 * p.length) rfl
                rw [List.drop_zero] at ht1 ht2
                rw [List.take_zero] at ht1
                have hcon := contains_one [] wr
                rw [show decide ((49 : UInt8) ∈ []) = false from rfl] at hcon
                go_wp2_with (go_at_call 278; refine hcon.mono ?_; rintro e w' ⟨rfl, rfl⟩)
                go_ret2
                rw [← HPL.out]
                exact ⟨rfl, hb5⟩

set_option maxRecDepth 20000 in
set_option maxHeartbeats 1000000 in
theorem path_bad (A : Nat → Addr) (B : Nat) (rb : Nat) (l : List UInt8) (w : World) (hS : Sents A B w) (hB : B ≤ rb) (hp : pPath l = none) (hl : l.length ≤ 9223372036854775807)
    (hc : w.cell? ⟨rb, 0, none⟩ = some (.string (S l))) (hf : w.frozen? ⟨rb, 0, none⟩ = false) :
    Calls Tryz.prog 232 #[.pointer (some ⟨rb, 0, none⟩)] w fun e w' => Fails A rb w (.string (S [])) e w' := by
  have hnn := neq_nil
  have hhd := neq_held
  unfold pPath at hp
  cases hn : pNum l with
  | none =>
    have hk1 := number_bad A B rb l w hS hB hn hl hc hf
    clear hp hn hc hf
    go_enter Tryz.func232, Tryz.ntmps232
    go_wp2_with fail
    refine hk1.mono ?_
    rintro e w1 ⟨t, x, l1, rfl, hbad, hb1⟩
    go_wp2_with fail
    refine (at_bad (A := A) _ _ _ hbad).mono ?_
    rintro e w' ⟨t', x', rfl, hbad', rfl⟩
    go_wp2
    go_ret2
    exact ⟨_, _, _, rfl, hbad', hb1⟩
  | some x =>
    obtain ⟨n, l'⟩ := x
    rw [hn] at hp
    simp only at hp
    have hk1 := number_ok rb l l' n w hn hl hc hf
    have hl' : l'.length ≤ 9223372036854775807 := by
      obtain ⟨e, _⟩ := pNum_sound n l l' hn
      rw [e, List.length_append] at hl
      omega
    have hn28 : n < 268435456 := (pNum_sound n l l' hn).2
    clear hn hc hf
    by_cases h37 : 37 < n
    · have hbits : Bad A (.iface 423 (.pointer (some (A 7)))) := Bad.base _ (by decide)
      clear hp
      go_enter Tryz.func232, Tryz.ntmps232
      go_wp2_with fail
      refine hk1.mono ?_
      rintro e w1 ⟨rfl, hb1⟩
      have hv := (hS.to (hb1.below hB hS.size)).all
      go_wp2_with fail
      refine (bits_any _ false _ (by simp; omega)).mono ?_
      rintro e w' ⟨rfl, rfl⟩
      go_wp2_with fail
      refine (at_bad (A := A) _ _ _ hbits).mono ?_
      rintro e w' ⟨t', x', rfl, hbad', rfl⟩
      go_wp2
      go_ret2
      exact ⟨_, _, _, rfl, hbad', hb1⟩
    · rw [if_neg h37] at hp
      by_cases hsh : l'.length < (n + 7) / 8
      · clear hp
        have hshort : Bad A (ptrE (A 1)) := Bad.base _ (by decide)
        have hk2 := fun w hS hc hf => take_short A B rb l' (((n : Int) + 7) / 8) w hS (by omega) hl' hc hf
        unfold ptrE at hshort hk2
        go_enter Tryz.func232, Tryz.ntmps232
        go_wp2_with fail
        refine hk1.mono ?_
        rintro e w1 ⟨rfl, hb1⟩
        have hS1 := hS.to (hb1.below hB hS.size)
        have hc1 := hb1.rest
        have hf1 := hb1.mark
        go_wp2_with fail
        refine (bits_any _ true _ (by simp; omega)).mono ?_
        rintro e w' ⟨rfl, rfl⟩
        go_wp2_with fail
        refine (hk2 _ hS1 hc1 hf1).mono ?_
        rintro e w2 ⟨rfl, hb2⟩
        go_wp2_with fail
        refine (at_bad (A := A) _ _ _ hshort).mono ?_
        rintro e w' ⟨t', x', rfl, hbad', rfl⟩
        go_wp2
        go_ret2
        exact ⟨_, _, _, rfl, hbad', hb1.trans hb2⟩
      · rw [if_neg hsh] at hp
        by_cases h49 : (49 : UInt8) ∈ (signs (8 * ((n + 7) / 8)) (l'.take ((n + 7) / 8))).drop n
        · have hpad : Bad A (.iface 423 (.pointer (some (A 5)))) := Bad.base _ (by decide)
          have hK : (((n : Int) + 7) / 8).toNat = (n + 7) / 8 := by omega
          have hk2 := fun w hc hf => take_ok rb l' (((n : Int) + 7) / 8) w (by omega) (by omega) hl' hc hf
          rw [hK] at hk2
          clear hK hp
          obtain ⟨p, hp⟩ : ∃ p, p = l'.take ((n + 7) / 8) := ⟨_, rfl⟩
          obtain ⟨r, hr⟩ : ∃ r, r = l'.drop ((n + 7) / 8) := ⟨_, rfl⟩
          have hpl : p.length = (n + 7) / 8 := by rw [hp, List.length_take]; omega
          rw [← hp] at hk2 h49
          rw [← hr] at hk2
          have HA' : Hid _ := h49
          clear hp hr hsh h49
          have hps := S_size p
          have hp5 : p.length ≤ 5 := by omega
          have HPL : Hid _ := hpl
          clear hpl
          obtain ⟨M, hM⟩ : ∃ M, M = madeCells (Value.int .u8 0).cells (8 * p.length) := ⟨_, rfl⟩
          have hmk : ∀ W : World, (Instr.makeSlice 100 (.int .i64 (8 * (p.length : Int))) (.int .i64 (8 * (p.length : Int)))).run Tryz.prog W = .ok (.slice (some ⟨W.heap.size, 0, none⟩) (8 * p.length) (8 * p.length)) (W.alloc (.cells M 5)) := fun W => by
            obtain ⟨i0, hi, hz0, hz1, hz2⟩ := info_parts u8info
            have h := run_make (P := Tryz.prog) W 100 5 i0 (.int .u8 0) Tryz.underlying100 hi hz0 .i64 .i64 (8 * (p.length : Int)) (8 * (p.length : Int)) (by omega) (by omega) (by rw [hz2]; omega) (by omega)
            rw [hz1, show (8 * (p.length : Int)).toNat = 8 * p.length from by omega, Nat.mul_one, ← hM] at h
            exact h
          have HM : Hid _ := hM
          clear hM
          go_enter Tryz.func232, Tryz.ntmps232
          go_wp2_with fail
          refine hk1.mono ?_
          rintro e w1 ⟨rfl, hb1⟩
          have hc1 := hb1.rest
          have hf1 := hb1.mark
          go_wp2_with fail
          refine (bits_any _ true _ (by simp; omega)).mono ?_
          rintro e w' ⟨rfl, rfl⟩
          go_wp2_with fail
          refine (hk2 _ hc1 hf1).mono ?_
          rintro e w2 ⟨rfl, hb2⟩
          have hb3 := hb1.trans hb2
          go_wp2_with fail
          obtain ⟨g, hg⟩ : ∃ g, g = w2.heap.size := ⟨_, rfl⟩
          obtain ⟨wm, hwm⟩ : ∃ wm, wm = w2.alloc (.cells M 5) := ⟨_, rfl⟩
          have hrow : BRow wm g (rowAt (8 * p.length) p 0) := by rw [hwm, hg, rowAt_zero, HM.out]; exact BRow.new w2 _
          have hrb : rb < w2.heap.size := cell_lt hb3.rest
          have hgr : g ≠ rb := by omega
          have hgw : w.heap.size ≤ g := by rw [hg]; exact hb3.size
          have hb4 : Adv ⟨rb, 0, none⟩ r w wm := by rw [hwm]; exact hb3.alloc _ hrb
          rw [← hwm, ← hg]
          clear hg hwm hmk hk2 hc1 hf1 hb1 hb2 hb3 hrb
          go_loopw [41] (fun i wr => ∃ k : Nat, k ≤ 8 * p.length ∧ i = .int .i64 k ∧ BRow wr g (rowAt (8 * p.length) p k) ∧ Adv ⟨rb, 0, none⟩ r w wr) (fun i _ => 8 * p.length - (intOf i).toNat)
          case atStart => exact ⟨0, by omega, rfl, hrow, hb4⟩
          case round =>
            obtain ⟨k, hk, rfl, hrow', hb5⟩ := hrel
            by_cases hlt : k < 8 * p.length
            · have hmk := hrow'.mark k
              have hcl := hrow'.cell k (by rw [rowAt_length _ _ _ hk]; exact hlt)
              obtain ⟨v0, hv0⟩ : ∃ v0, wr.cell? ⟨g, k, none⟩ = some v0 := ⟨_, hcl⟩
              clear hcl
              have hk8 : k / 8 < p.length := by omega
              go_wp2
              go_roundw
              case rel =>
                refine ⟨k + 1, by omega, by go_num, ?_, ?_⟩
                · rw [← rowAt_set _ _ _ hlt]
                  exact hrow'.set k _ _ (sign_code p k _)
                · exact hb5.setNew _ _ hgw hgr
              case measure => simp [intOf]; omega
            · obtain rfl : k = 8 * p.length := by omega
              rw [rowAt_full] at hrow'
              have hv := (hS.to (hb5.below hB hS.size)).all
              have h49 := HA'.out
              rw [← HPL.out] at h49
              have he : n < 8 * p.length := by
                by_cases he : n < 8 * p.length
                · exact he
                · rw [List.drop_of_length_le (by rw [signs_length]; omega)] at h49
                  cases h49
              have ht1 := hrow'.text n (8 * p.length - n) (8 * p.length - n) (by rw [signs_length]; omega) (8 * p.length - n) rfl
              rw [show ((signs (8 * p.length) p).drop n).take (8 * p.length - n) = (signs (8 * p.length) p).drop n from List.take_of_length_le (by rw [List.length_drop, signs_length]; omega)] at ht1
              have hcon := contains_one ((signs (8 * p.length) p).drop n) wr
              rw [decide_eq_true h49] at hcon
              clear h49
              go_wp2_with (first | (go_at_call 278; refine hcon.mono ?_; rintro e w' ⟨rfl, rfl⟩) | (go_at_call 100; refine (at_bad (A := A) _ _ _ hpad).mono ?_; rintro e w' ⟨t', x', rfl, hbad', rfl⟩))
              go_ret2
              exact ⟨_, _, _, rfl, hbad', hb5⟩
        · rw [if_neg h49] at hp; cases hp

theorem value_ok (rb : Nat) (l r s : List UInt8) (w : World) (hp : pVal l = some (s, r)) (hl : l.length ≤ 9223372036854775807)
    (hc : w.cell? ⟨rb, 0, none⟩ = some (.string (S l))) (hf : w.frozen? ⟨rb, 0, none⟩ = false) :
    Calls Tryz.prog 236 #[.pointer (some ⟨rb, 0, none⟩)] w fun e w' => e = .returned (.tuple #[.string (S s), .nilIface]) ∧ Adv ⟨rb, 0, none⟩ r w w' := by
  have hnn := neq_nil
  unfold pVal at hp
  cases hn : pNum l with
  | none => rw [hn] at hp; cases hp
  | some x =>
    obtain ⟨n, l'⟩ := x
    rw [hn] at hp
    simp only at hp
    by_cases h20 : 20 < n
    · rw [if_pos h20] at hp; cases hp
    · rw [if_neg h20] at hp
      by_cases hsh : l'.length < n
      · rw [if_pos hsh] at hp; cases hp
      · rw [if_neg hsh] at hp
        simp only [Option.some.injEq, Prod.mk.injEq] at hp
        obtain ⟨rfl, rfl⟩ := hp
        have hk1 := number_ok rb l l' n w hn hl hc hf
        have hl' : l'.length ≤ 9223372036854775807 := by
          obtain ⟨e, _⟩ := pNum_sound n l l' hn
          rw [e, List.length_append] at hl
          omega
        have hk2 := fun w hc hf => take_ok rb l' (n : Int) w (by omega) (by omega) hl' hc hf
        rw [show (n : Int).toNat = n from by omega] at hk2
        have hk3 := fun w => clone_any (S (l'.take n)) w (by rw [S_size, List.length_take]; omega)
        clear hn hc hf
        go_enter Tryz.func236, Tryz.ntmps236
        go_wp2_with fail
        refine hk1.mono ?_
        rintro e w1 ⟨rfl, hb1⟩
        have hc1 := hb1.rest
        have hf1 := hb1.mark
        go_wp2_with fail
        refine (length_any _ true _ (by simp; omega)).mono ?_
        rintro e w' ⟨rfl, rfl⟩
        go_wp2_with fail
        refine (hk2 _ hc1 hf1).mono ?_
        rintro e w2 ⟨rfl, hb2⟩
        go_wp2_with fail
        refine (hk3 _).mono ?_
        rintro e w3 ⟨rfl, hb3⟩
        go_wp2
        go_ret2
        exact ⟨rfl, (hb1.trans hb2).then hb3 (cell_lt hb2.rest)⟩

theorem value_bad (A : Nat → Addr) (B : Nat) (rb : Nat) (l : List UInt8) (w : World) (hS : Sents A B w) (hB : B ≤ rb) (hp : pVal l = none) (hl : l.length ≤ 9223372036854775807)
    (hc : w.cell? ⟨rb, 0, none⟩ = some (.string (S l))) (hf : w.frozen? ⟨rb, 0, none⟩ = false) :
    Calls Tryz.prog 236 #[.pointer (some ⟨rb, 0, none⟩)] w fun e w' => Fails A rb w (.string (S [])) e w' := by
  have hnn := neq_nil
  have hhd := neq_held
  unfold pVal at hp
  cases hn : pNum l with
  | none =>
    have hk1 := number_bad A B rb l w hS hB hn hl hc hf
    clear hp hn hc hf
    go_enter Tryz.func236, Tryz.ntmps236
    go_wp2_with fail
    refine hk1.mono ?_
    rintro e w1 ⟨t, x, l1, rfl, hbad, hb1⟩
    go_wp2_with fail
    refine (at_bad (A := A) _ _ _ hbad).mono ?_
    rintro e w' ⟨t', x', rfl, hbad', rfl⟩
    go_wp2
    go_ret2
    exact ⟨_, _, _, rfl, hbad', hb1⟩
  | some x =>
    obtain ⟨n, l'⟩ := x
    rw [hn] at hp
    simp only at hp
    have hk1 := number_ok rb l l' n w hn hl hc hf
    have hl' : l'.length ≤ 9223372036854775807 := by
      obtain ⟨e, _⟩ := pNum_sound n l l' hn
      rw [e, List.length_append] at hl
      omega
    have hn28 : n < 268435456 := (pNum_sound n l l' hn).2
    clear hn hc hf
    by_cases h20 : 20 < n
    · have hbits : Bad A (.iface 423 (.pointer (some (A 8)))) := Bad.base _ (by decide)
      clear hp
      go_enter Tryz.func236, Tryz.ntmps236
      go_wp2_with fail
      refine hk1.mono ?_
      rintro e w1 ⟨rfl, hb1⟩
      have hv := (hS.to (hb1.below hB hS.size)).all
      go_wp2_with fail
      refine (length_any _ false _ (by simp; omega)).mono ?_
      rintro e w' ⟨rfl, rfl⟩
      go_wp2_with fail
      refine (at_bad (A := A) _ _ _ hbits).mono ?_
      rintro e w' ⟨t', x', rfl, hbad', rfl⟩
      go_wp2
      go_ret2
      exact ⟨_, _, _, rfl, hbad', hb1⟩
    · rw [if_neg h20] at hp
      by_cases hsh : l'.length < n
      · clear hp
        have hshort : Bad A (ptrE (A 1)) := Bad.base _ (by decide)
        have hk2 := fun w hS hc hf => take_short A B rb l' (n : Int) w hS (by omega) hl' hc hf
        unfold ptrE at hshort hk2
        go_enter Tryz.func236, Tryz.ntmps236
        go_wp2_with fail
        refine hk1.mono ?_
        rintro e w1 ⟨rfl, hb1⟩
        have hS1 := hS.to (hb1.below hB hS.size)
        have hc1 := hb1.rest
        have hf1 := hb1.mark
        go_wp2_with fail
        refine (length_any _ true _ (by simp; omega)).mono ?_
        rintro e w' ⟨rfl, rfl⟩
        go_wp2_with fail
        refine (hk2 _ hS1 hc1 hf1).mono ?_
        rintro e w2 ⟨rfl, hb2⟩
        go_wp2_with fail
        refine (at_bad (A := A) _ _ _ hshort).mono ?_
        rintro e w' ⟨t', x', rfl, hbad', rfl⟩
        go_wp2
        go_ret2
        exact ⟨_, _, _, rfl, hbad', hb1.trans hb2⟩
      · rw [if_neg hsh] at hp; cases hp
end Go.Proofs.YtddcbeeldjjmeaaGreatDoor.Tw
