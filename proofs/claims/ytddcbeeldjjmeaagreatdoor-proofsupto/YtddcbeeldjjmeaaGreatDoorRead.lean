/- The program's reader: take, single, number, four, path, value, end. -/
import Derived.Test.YtddcbeeldjjmeaaGreatDoorErrs
import Derived.Test.YtddcbeeldjjmeaaGreatDoorPure
import Derived.WalkSpells
import Derived.Lib.Strings
namespace Go.Proofs.YtddcbeeldjjmeaaGreatDoor.Tw
open Go.RowKit Go.Proofs.YtddcbeeldjjmeaaGreatDoor.Pu
set_option linter.unusedVariables false
set_option linter.unusedSimpArgs false

theorem S_take (l : List UInt8) (k : Nat) : (S l).extract 0 k = S (l.take k) := by
  apply ByteArray.ext
  simp [S, ByteArray.data_extract]
theorem S_drop (l : List UInt8) (k : Nat) : (S l).extract k l.length = S (l.drop k) := by
  apply ByteArray.ext
  simp only [S, ByteArray.data_extract]
  apply Array.ext'
  simp only [Array.toList_extract, List.extract_eq_take_drop]
  exact List.take_of_length_le (by simp)
theorem S_get (l : List UInt8) (i : Nat) (h : i < (S l).size) : (S l)[i]'h = l[i]'(by rw [S_size] at h; exact h) := by
  simp [S, ByteArray.getElem_eq_getElem_data]

/-! 'err != nil', at an error and at nil. -/
theorem neq_held (t : TypeId) (v : Value) (w : World) : (Go.binOp .neq 95 (.iface t v) .nilIface).run Tryz.prog w = .ok (.bool true) w := by
  have h : ∀ d : Nat, (Op.equalIn (d + 1) 95 (.iface t v) .nilIface).run Tryz.prog w = .ok false w := fun d => by simp [Op.equalIn, run_underlying Tryz.underlying95]
  simp only [Go.binOp]
  simp [Op.equal, Op.maxDepth, h 9999]
theorem neq_nil (w : World) : (Go.binOp .neq 95 .nilIface .nilIface).run Tryz.prog w = .ok (.bool false) w := by
  have h : ∀ d : Nat, (Op.equalIn (d + 1) 95 .nilIface .nilIface).run Tryz.prog w = .ok true w := fun d => by simp [Op.equalIn, run_underlying Tryz.underlying95]
  simp only [Go.binOp]
  simp [Op.equal, Op.maxDepth, h 9999]

theorem take_ok (rb : Nat) (l : List UInt8) (n : Int) (w : World) (h0 : 0 ≤ n) (h1 : n ≤ l.length) (hl : l.length ≤ 9223372036854775807)
    (hc : w.cell? ⟨rb, 0, none⟩ = some (.string (S l))) (hf : w.frozen? ⟨rb, 0, none⟩ = false) :
    Calls Tryz.prog 231 #[.pointer (some ⟨rb, 0, none⟩), .int .i64 n] w fun e w' => e = .returned (.tuple #[.string (S (l.take n.toNat)), .nilIface]) ∧ Adv ⟨rb, 0, none⟩ (l.drop n.toNat) w w' := by
  have hs := S_size l
  obtain ⟨N, rfl⟩ := Int.eq_ofNat_of_zero_le h0
  go_enter Tryz.func231, Tryz.ntmps231
  go_wp2
  go_ret2
  refine ⟨by rw [S_take]; rfl, ?_⟩
  rw [S_drop]
  exact Adv.store hc hf

theorem take_short (A : Nat → Addr) (B : Nat) (rb : Nat) (l : List UInt8) (n : Int) (w : World) (hS : Sents A B w) (h1 : (l.length : Int) < n) (hl : l.length ≤ 9223372036854775807)
    (hc : w.cell? ⟨rb, 0, none⟩ = some (.string (S l))) (hf : w.frozen? ⟨rb, 0, none⟩ = false) :
    Calls Tryz.prog 231 #[.pointer (some ⟨rb, 0, none⟩), .int .i64 n] w fun e w' => e = .returned (.tuple #[.string (S []), ptrE (A 1)]) ∧ Adv ⟨rb, 0, none⟩ l w w' := by
  have hs := S_size l
  have hv := hS.var 1 (by decide)
  unfold ptrE at hv ⊢
  go_enter Tryz.func231, Tryz.ntmps231
  go_wp2
  go_quiet (fail)
  go_wp2
  go_ret2
  exact ⟨rfl, (Adv.refl hc hf).drewN _⟩

theorem single_ok (rb : Nat) (c : UInt8) (l : List UInt8) (w : World) (hl : (c :: l).length ≤ 9223372036854775807)
    (hc : w.cell? ⟨rb, 0, none⟩ = some (.string (S (c :: l)))) (hf : w.frozen? ⟨rb, 0, none⟩ = false) :
    Calls Tryz.prog 159 #[.pointer (some ⟨rb, 0, none⟩)] w fun e w' => e = .returned (.tuple #[.int .i64 c.toNat, .nilIface]) ∧ Adv ⟨rb, 0, none⟩ l w w' := by
  have hk := take_ok rb (c :: l) 1 w (by omega) (by simp only [List.length_cons]; omega) hl hc hf
  have hn := neq_nil
  have hs := S_size [c]
  have hg : ∀ h, (S [c])[0]'h = c := fun h => S_get _ _ h
  have h8 := c.toNat_lt
  simp only [Int.toNat_one, List.take_succ_cons, List.take_zero, List.drop_succ_cons, List.drop_zero] at hk
  go_enter Tryz.func159, Tryz.ntmps159
  go_wp2_with (go_at_call 231; refine hk.mono ?_; rintro e w' ⟨rfl, hb⟩)
  go_ret2
  exact ⟨rfl, hb⟩

theorem single_bad (A : Nat → Addr) (B : Nat) (rb : Nat) (w : World) (hS : Sents A B w)
    (hc : w.cell? ⟨rb, 0, none⟩ = some (.string (S []))) (hf : w.frozen? ⟨rb, 0, none⟩ = false) :
    Calls Tryz.prog 159 #[.pointer (some ⟨rb, 0, none⟩)] w fun e w' => ∃ t x, e = .returned (.tuple #[.int .i64 0, .iface t x]) ∧ Bad A (.iface t x) ∧ Adv ⟨rb, 0, none⟩ [] w w' := by
  have hk := take_short A B rb [] 1 w hS (by simp) (by simp) hc hf
  have hn := neq_held
  have hbad : Bad A (ptrE (A 1)) := Bad.base _ (by decide)
  unfold ptrE at hk hbad
  go_enter Tryz.func159, Tryz.ntmps159
  go_wp2_with (go_at_call 231; refine hk.mono ?_; rintro e w' ⟨rfl, hb⟩)
  go_ret2
  exact ⟨_, _, rfl, hbad, hb⟩

theorem four_ok (rb : Nat) (l r : List UInt8) (n : Nat) (w : World) (hp : p4 l = some (n, r)) (hl : l.length ≤ 9223372036854775807)
    (hc : w.cell? ⟨rb, 0, none⟩ = some (.string (S l))) (hf : w.frozen? ⟨rb, 0, none⟩ = false) :
    Calls Tryz.prog 233 #[.pointer (some ⟨rb, 0, none⟩)] w fun e w' => e = .returned (.tuple #[.int .i64 n, .nilIface]) ∧ Adv ⟨rb, 0, none⟩ r w w' := by
  obtain ⟨a, b, c, d, rfl⟩ : ∃ a b c d, l = a :: b :: c :: d :: r := by
    match l, hp with
    | a :: b :: c :: d :: l', hp =>
      simp only [p4, Option.some.injEq, Prod.mk.injEq] at hp
      obtain ⟨_, rfl⟩ := hp
      exact ⟨a, b, c, d, rfl⟩
  have hk := take_ok rb (a :: b :: c :: d :: r) 4 w (by omega) (by simp only [List.length_cons]; omega) hl hc hf
  have hn := neq_nil
  have hs := S_size [a, b, c, d]
  have hg0 : ∀ h, (S [a, b, c, d])[0]'h = a := fun h => S_get _ _ h
  have hg1 : ∀ h, (S [a, b, c, d])[1]'h = b := fun h => S_get _ _ h
  have hg2 : ∀ h, (S [a, b, c, d])[2]'h = c := fun h => S_get _ _ h
  have hg3 : ∀ h, (S [a, b, c, d])[3]'h = d := fun h => S_get _ _ h
  have ha := a.toNat_lt
  have hb := b.toNat_lt
  have hc' := c.toNat_lt
  have hd := d.toNat_lt
  change Calls _ _ _ _ (fun e w' => e = .returned (.tuple #[.string (S [a, b, c, d]), .nilIface]) ∧ Adv ⟨rb, 0, none⟩ r w w') at hk
  have HP : Hid _ := hp
  clear hp
  go_enter Tryz.func233, Tryz.ntmps233
  go_wp2_with (go_at_call 231; refine hk.mono ?_; rintro e w' ⟨rfl, hb⟩)
  go_quiet (fail)
  go_wp2
  go_ret2
  have e := or4 a.toNat b.toNat c.toNat d.toNat (by omega) (by omega) (by omega) (by omega)
  have hp := HP.out
  simp only [p4, Option.some.injEq, Prod.mk.injEq, and_true] at hp
  rw [hp] at e
  refine ⟨?_, hb.drewN _⟩
  show Ending.returned (.tuple #[.int .i64 _, .nilIface]) = _
  rw [← e]
theorem four_bad (A : Nat → Addr) (B : Nat) (rb : Nat) (l : List UInt8) (w : World) (hS : Sents A B w) (hp : p4 l = none) (hl : l.length ≤ 9223372036854775807)
    (hc : w.cell? ⟨rb, 0, none⟩ = some (.string (S l))) (hf : w.frozen? ⟨rb, 0, none⟩ = false) :
    Calls Tryz.prog 233 #[.pointer (some ⟨rb, 0, none⟩)] w fun e w' => ∃ t x, e = .returned (.tuple #[.int .i64 0, .iface t x]) ∧ Bad A (.iface t x) ∧ Adv ⟨rb, 0, none⟩ l w w' := by
  have h4 : l.length < 4 := by
    match l, hp with
    | [], _ => simp
    | [a], _ => simp
    | [a, b], _ => simp
    | [a, b, c], _ => simp
    | a :: b :: c :: d :: l', hp => simp [p4] at hp
  have hk := take_short A B rb l 4 w hS (by omega) hl hc hf
  have hn := neq_held
  have hbad : Bad A (ptrE (A 1)) := Bad.base _ (by decide)
  unfold ptrE at hk hbad
  clear hp
  go_enter Tryz.func233, Tryz.ntmps233
  go_wp2_with (go_at_call 231; refine hk.mono ?_; rintro e w' ⟨rfl, hb⟩)
  go_ret2
  exact ⟨_, _, rfl, hbad, hb⟩

theorem num_code0 (m c : Nat) (hm : m < 2 ^ (7 * 0)) (hc : c < 256) : Go.bits .or .i64 (m : Int) (wrap64 (Go.bits .and .i64 (c : Int) 127)) = ((m + c % 128 * 128 ^ 0 : Nat) : Int) := by
  have := num_code m c 0 hm (by omega) hc
  simpa using this
theorem num_code1 (m c : Nat) (hm : m < 2 ^ (7 * 1)) (hc : c < 256) : Go.bits .or .i64 (m : Int) (wrap64 (Go.bits .and .i64 (c : Int) 127 * 128)) = ((m + c % 128 * 128 ^ 1 : Nat) : Int) := num_code m c 1 hm (by omega) hc
theorem num_code2 (m c : Nat) (hm : m < 2 ^ (7 * 2)) (hc : c < 256) : Go.bits .or .i64 (m : Int) (wrap64 (Go.bits .and .i64 (c : Int) 127 * 16384)) = ((m + c % 128 * 128 ^ 2 : Nat) : Int) := num_code m c 2 hm (by omega) hc
theorem num_code3 (m c : Nat) (hm : m < 2 ^ (7 * 3)) (hc : c < 256) : Go.bits .or .i64 (m : Int) (wrap64 (Go.bits .and .i64 (c : Int) 127 * 2097152)) = ((m + c % 128 * 128 ^ 3 : Nat) : Int) := num_code m c 3 hm (by omega) hc
theorem num_next (m c j : Nat) (hm : m < 2 ^ (7 * j)) : m + c % 128 * 128 ^ j < 2 ^ (7 * (j + 1)) := by
  have e : (128 : Nat) ^ j = 2 ^ (7 * j) := by rw [show (128 : Nat) = 2 ^ 7 from rfl, ← Nat.pow_mul]
  have e2 : 2 ^ (7 * (j + 1)) = 2 ^ (7 * j) * 128 := by rw [Nat.mul_add, Nat.pow_add]
  rw [e, e2]
  have : c % 128 * 2 ^ (7 * j) ≤ 127 * 2 ^ (7 * j) := Nat.mul_le_mul (by omega) (Nat.le_refl _)
  omega

/-- What the loop of 'number' keeps, j rounds on. -/
def NumAt (rb : Nat) (w : World) (o : Option (Nat × List UInt8)) (v s : Value) (wr : World) : Prop :=
  ∃ (j m : Nat) (sh : Int) (l' : List UInt8), j ≤ 4 ∧ m < 2 ^ (7 * j) ∧ pNumF (4 - j) j m l' = o ∧ sh = 7 * j ∧ v = .int .i64 (m : Nat) ∧ s = .int .i64 sh ∧ l'.length ≤ 9223372036854775807 ∧ Adv ⟨rb, 0, none⟩ l' w wr

set_option maxRecDepth 20000 in
set_option maxHeartbeats 1000000 in
theorem number_ok (rb : Nat) (l r : List UInt8) (n : Nat) (w : World) (hp : pNum l = some (n, r)) (hl : l.length ≤ 9223372036854775807)
    (hc : w.cell? ⟨rb, 0, none⟩ = some (.string (S l))) (hf : w.frozen? ⟨rb, 0, none⟩ = false) :
    Calls Tryz.prog 155 #[.pointer (some ⟨rb, 0, none⟩)] w fun e w' => e = .returned (.tuple #[.int .i64 n, .nilIface]) ∧ Adv ⟨rb, 0, none⟩ r w w' := by
  have hn := neq_nil
  go_enter Tryz.func155, Tryz.ntmps155
  go_wp2
  go_loopw [4, 5] (fun v s wr => NumAt rb w (some (n, r)) v s wr) (fun _ s _ => (28 - intOf s).toNat)
  case atStart => exact ⟨0, 0, 0, l, by omega, by omega, hp, rfl, rfl, rfl, hl, Adv.refl hc hf⟩
  case round =>
    obtain ⟨j, m, sh, l', hj, hm, hq, hsh, rfl, rfl, hl', hb⟩ := hrel
    have hcw := hb.rest
    have hfw := hb.mark
    have h4 : j < 4 := by
      by_cases h : j < 4
      · exact h
      · rw [show 4 - j = 0 from by omega] at hq; simp [pNumF] at hq
    cases l' with
    | nil => rw [show 4 - j = 3 - j + 1 from by omega] at hq; simp [pNumF] at hq
    | cons c l' =>
      have h8 : c.toNat < 256 := c.toNat_lt
      have hk := single_ok rb c l' wr hl' hcw hfw
      have hl2 : l'.length ≤ 9223372036854775807 := by simp only [List.length_cons] at hl'; omega
      clear hc hf hcw hfw hl' hp hl
      rw [show 4 - j = 3 - j + 1 from by omega] at hq
      unfold pNumF at hq
      by_cases h0 : c.toNat = 0 ∧ 0 < j
      · rw [if_pos h0] at hq; cases hq
      · rw [if_neg h0] at hq
        have hsx : sh = 0 ∨ sh = 7 ∨ sh = 14 ∨ sh = 21 := by omega
        have HL : Hid (l'.length ≤ 9223372036854775807) := hl2
        clear hl2
        by_cases hlt : c.toNat < 128
        · rw [if_pos hlt] at hq
          simp only [Option.some.injEq, Prod.mk.injEq] at hq
          obtain ⟨hq, rfl⟩ := hq
          by_cases hz : c.toNat = 0
          · obtain rfl : j = 0 := by omega
            obtain rfl : sh = 0 := by omega
            have e := num_code0 m c.toNat hm h8
            rw [hq] at e
            have HE : Hid _ := e
            have HZ : Hid _ := hz
            rw [hz] at hk
            clear hq e hm hsh h0 hj h4 hsx hlt h8 hz
            go_wp2_with (go_at_call 159; refine hk.mono ?_; rintro e w' ⟨rfl, hb'⟩)
            go_ret2
            refine ⟨?_, hb.trans hb'⟩
            have e := HE.out
            rw [HZ.out] at e
            exact congrArg (fun z => Ending.returned (.tuple #[.int .i64 z, .nilIface])) e
          · rcases hsx with rfl | rfl | rfl | rfl
            · obtain rfl : j = 0 := by omega
              have e := num_code0 m c.toNat hm h8
              rw [hq] at e
              have HE : Hid _ := e
              clear hq e hm hsh h0 hj h4
              go_wp2_with (go_at_call 159; refine hk.mono ?_; rintro e w' ⟨rfl, hb'⟩)
              go_ret2
              exact ⟨congrArg (fun z => Ending.returned (.tuple #[.int .i64 z, .nilIface])) HE.out, hb.trans hb'⟩
            · obtain rfl : j = 1 := by omega
              have e := num_code1 m c.toNat hm h8
              rw [hq] at e
              have HE : Hid _ := e
              clear hq e hm hsh h0 hj h4
              go_wp2_with (go_at_call 159; refine hk.mono ?_; rintro e w' ⟨rfl, hb'⟩)
              go_ret2
              exact ⟨congrArg (fun z => Ending.returned (.tuple #[.int .i64 z, .nilIface])) HE.out, hb.trans hb'⟩
            · obtain rfl : j = 2 := by omega
              have e := num_code2 m c.toNat hm h8
              rw [hq] at e
              have HE : Hid _ := e
              clear hq e hm hsh h0 hj h4
              go_wp2_with (go_at_call 159; refine hk.mono ?_; rintro e w' ⟨rfl, hb'⟩)
              go_ret2
              exact ⟨congrArg (fun z => Ending.returned (.tuple #[.int .i64 z, .nilIface])) HE.out, hb.trans hb'⟩
            · obtain rfl : j = 3 := by omega
              have e := num_code3 m c.toNat hm h8
              rw [hq] at e
              have HE : Hid _ := e
              clear hq e hm hsh h0 hj h4
              go_wp2_with (go_at_call 159; refine hk.mono ?_; rintro e w' ⟨rfl, hb'⟩)
              go_ret2
              exact ⟨congrArg (fun z => Ending.returned (.tuple #[.int .i64 z, .nilIface])) HE.out, hb.trans hb'⟩
        · rw [if_neg hlt] at hq
          have hnx := num_next m c.toNat j hm
          have HQ : Hid _ := hq
          have HN : Hid _ := hnx
          clear hq hnx
          rcases hsx with rfl | rfl | rfl | rfl
          · obtain rfl : j = 0 := by omega
            have HE : Hid _ := num_code0 m c.toNat hm h8
            clear hm hsh h0 hj h4
            go_wp2_with (go_at_call 159; refine hk.mono ?_; rintro e w' ⟨rfl, hb'⟩)
            go_roundw
            case rel => exact ⟨1, _, 7, l', by omega, HN.out, HQ.out, by omega, congrArg (Value.int .i64) HE.out, rfl, HL.out, hb.trans hb'⟩
            case measure => simp [intOf]
          · obtain rfl : j = 1 := by omega
            have HE : Hid _ := num_code1 m c.toNat hm h8
            clear hm hsh h0 hj h4
            go_wp2_with (go_at_call 159; refine hk.mono ?_; rintro e w' ⟨rfl, hb'⟩)
            go_roundw
            case rel => exact ⟨2, _, 14, l', by omega, HN.out, HQ.out, by omega, congrArg (Value.int .i64) HE.out, rfl, HL.out, hb.trans hb'⟩
            case measure => simp [intOf]
          · obtain rfl : j = 2 := by omega
            have HE : Hid _ := num_code2 m c.toNat hm h8
            clear hm hsh h0 hj h4
            go_wp2_with (go_at_call 159; refine hk.mono ?_; rintro e w' ⟨rfl, hb'⟩)
            go_roundw
            case rel => exact ⟨3, _, 21, l', by omega, HN.out, HQ.out, by omega, congrArg (Value.int .i64) HE.out, rfl, HL.out, hb.trans hb'⟩
            case measure => simp [intOf]
          · obtain rfl : j = 3 := by omega
            have HE : Hid _ := num_code3 m c.toNat hm h8
            clear hm hsh h0 hj h4
            go_wp2_with (go_at_call 159; refine hk.mono ?_; rintro e w' ⟨rfl, hb'⟩)

/-- A call that ends in an error: what it hands back beside it is z. -/
def Fails (A : Nat → Addr) (rb : Nat) (w : World) (z : Value) (e : Ending) (w' : World) : Prop :=
  ∃ t x l', e = .returned (.tuple #[z, .iface t x]) ∧ Bad A (.iface t x) ∧ Adv ⟨rb, 0, none⟩ l' w w'

set_option maxRecDepth 20000 in
set_option maxHeartbeats 1000000 in
theorem number_bad (A : Nat → Addr) (B : Nat) (rb : Nat) (l : List UInt8) (w : World) (hS : Sents A B w) (hB : B ≤ rb) (hp : pNum l = none) (hl : l.length ≤ 9223372036854775807)
    (hc : w.cell? ⟨rb, 0, none⟩ = some (.string (S l))) (hf : w.frozen? ⟨rb, 0, none⟩ = false) :
    Calls Tryz.prog 155 #[.pointer (some ⟨rb, 0, none⟩)] w fun e w' => Fails A rb w (.int .i64 0) e w' := by
  have hn := neq_nil
  have hh := neq_held
  have hbig : Bad A (ptrE (A 4)) := Bad.base _ (by decide)
  have hlong : Bad A (ptrE (A 3)) := Bad.base _ (by decide)
  unfold ptrE at hbig hlong
  go_enter Tryz.func155, Tryz.ntmps155
  go_wp2
  go_loopw [4, 5] (fun v s wr => NumAt rb w none v s wr) (fun _ s _ => (28 - intOf s).toNat)
  case atStart => exact ⟨0, 0, 0, l, by omega, by omega, hp, rfl, rfl, rfl, hl, Adv.refl hc hf⟩
  case round =>
    obtain ⟨j, m, sh, l', hj, hm, hq, hsh, rfl, rfl, hl', hb⟩ := hrel
    have hS' := hS.to (hb.below hB hS.size)
    have hcw := hb.rest
    have hfw := hb.mark
    have hv := hS'.all
    clear hc hf hp hl
    have hsx : sh = 0 ∨ sh = 7 ∨ sh = 14 ∨ sh = 21 ∨ sh = 28 := by omega
    by_cases h4 : j < 4
    · rw [show 4 - j = 3 - j + 1 from by omega] at hq
      cases l' with
      | nil =>
        have hk := single_bad A B rb wr hS' hcw hfw
        have h28 : sh < 28 := by omega
        clear hq hm hj h4 hsh hcw hfw hv
        rcases hsx with rfl | rfl | rfl | rfl | rfl
        all_goals first
          | (exfalso; omega)
          | (go_wp2_with (go_at_call 159; refine hk.mono ?_; rintro e w' ⟨t, x, rfl, hbad, hb'⟩)
             go_ret2
             exact ⟨_, _, _, rfl, hbad, hb.trans hb'⟩)
      | cons c l' =>
        have h8 : c.toNat < 256 := c.toNat_lt
        have hk := single_ok rb c l' wr hl' hcw hfw
        have hl2 : l'.length ≤ 9223372036854775807 := by simp only [List.length_cons] at hl'; omega
        clear hcw hfw hl'
        have HL : Hid (l'.length ≤ 9223372036854775807) := hl2
        clear hl2
        unfold pNumF at hq
        by_cases h0 : c.toNat = 0 ∧ 0 < j
        · obtain ⟨hz, hj0⟩ := h0
          have h28 : 0 < sh ∧ sh < 28 := by omega
          rw [hz] at hk
          clear hq hm hj h4 hsh h8 hz
          rcases hsx with rfl | rfl | rfl | rfl | rfl
          all_goals first
            | (exfalso; omega)
            | (go_wp2_with (go_at_call 159; refine hk.mono ?_; rintro e w' ⟨rfl, hb'⟩; replace hv := (hS'.to (hb'.below hB hS'.size)).all)
               go_quiet (fail)
               go_wp2
               go_ret2
               exact ⟨_, _, _, rfl, hlong, (hb.trans hb').drewN _⟩)
        · rw [if_neg h0] at hq
          by_cases hlt : c.toNat < 128
          · rw [if_pos hlt] at hq; cases hq
          · rw [if_neg hlt] at hq
            have hnx := num_next m c.toNat j hm
            have HQ : Hid _ := hq
            have HN : Hid _ := hnx
            have h28 : sh < 28 := by omega
            clear hq hnx hv
            rcases hsx with rfl | rfl | rfl | rfl | rfl
            · obtain rfl : j = 0 := by omega
              have HE : Hid _ := num_code0 m c.toNat hm h8
              clear hm hsh h0 hj h4
              go_wp2_with (go_at_call 159; refine hk.mono ?_; rintro e w' ⟨rfl, hb'⟩)
              go_roundw
              case rel => exact ⟨1, _, 7, l', by omega, HN.out, HQ.out, by omega, congrArg (Value.int .i64) HE.out, rfl, HL.out, hb.trans hb'⟩
              case measure => simp [intOf]
            · obtain rfl : j = 1 := by omega
              have HE : Hid _ := num_code1 m c.toNat hm h8
              clear hm hsh h0 hj h4
              go_wp2_with (go_at_call 159; refine hk.mono ?_; rintro e w' ⟨rfl, hb'⟩)
              go_roundw
              case rel => exact ⟨2, _, 14, l', by omega, HN.out, HQ.out, by omega, congrArg (Value.int .i64) HE.out, rfl, HL.out, hb.trans hb'⟩
              case measure => simp [intOf]
            · obtain rfl : j = 2 := by omega
              have HE : Hid _ := num_code2 m c.toNat hm h8
              clear hm hsh h0 hj h4
              go_wp2_with (go_at_call 159; refine hk.mono ?_; rintro e w' ⟨rfl, hb'⟩)
              go_roundw
              case rel => exact ⟨3, _, 21, l', by omega, HN.out, HQ.out, by omega, congrArg (Value.int .i64) HE.out, rfl, HL.out, hb.trans hb'⟩
              case measure => simp [intOf]
            · obtain rfl : j = 3 := by omega
              have HE : Hid _ := num_code3 m c.toNat hm h8
              clear hm hsh h0 hj h4
              go_wp2_with (go_at_call 159; refine hk.mono ?_; rintro e w' ⟨rfl, hb'⟩)
              go_roundw
              case rel => exact ⟨4, _, 28, l', by omega, HN.out, HQ.out, by omega, congrArg (Value.int .i64) HE.out, rfl, HL.out, hb.trans hb'⟩
              case measure => simp [intOf]
            · exfalso; omega
    · obtain rfl : sh = 28 := by omega
      clear hq hm hj h4 hsh hsx
      go_wp2
      go_quiet (fail)
      go_wp2
      go_ret2
      exact ⟨_, _, _, rfl, hbig, hb.drewN _⟩
end Go.Proofs.YtddcbeeldjjmeaaGreatDoor.Tw
