/- The document's answer: what is read. -/
import Derived.Test.YtddcbeeldjjmeaaGreatDoorRefO
namespace Go.Proofs.YtddcbeeldjjmeaaGreatDoor.Tw
open Go.RowKit Go.Proofs.YtddcbeeldjjmeaaGreatDoor.Pu
set_option linter.unusedVariables false
set_option linter.unusedSimpArgs false

set_option maxHeartbeats 400000 in
theorem rtake_any (rb : Nat) (l : List UInt8) (n : Nat) (w : World) (hl : l.length ≤ 9223372036854775807)
    (hc : w.cell? ⟨rb, 0, none⟩ = some (.string (S l))) (hf : w.frozen? ⟨rb, 0, none⟩ = false) :
    Calls Tryz.prog 53 #[.pointer (some ⟨rb, 0, none⟩), .int .i64 n] w fun e w' => e = .returned (.string (S (l.take n))) ∧ Adv ⟨rb, 0, none⟩ (l.drop n) w w' := by
  have hs := S_size l
  by_cases hn : n ≤ l.length
  · go_enter Tryz.func53, Tryz.ntmps53
    go_wp2
    go_ret
    refine ⟨by rw [S_take]; rfl, ?_⟩
    rw [S_drop]
    exact Adv.store hc hf
  · have e1 : l.take n = l.take l.length := by rw [List.take_of_length_le (by omega), List.take_length]
    have e2 : l.drop n = [] := List.drop_of_length_le (by omega)
    rw [e1, e2]
    clear e1 e2
    go_enter Tryz.func53, Tryz.ntmps53
    go_wp2
    go_ret
    refine ⟨by rw [S_take]; rfl, ?_⟩
    exact Adv.store hc hf

theorem rone_any (rb : Nat) (l : List UInt8) (w : World) (hl : l.length ≤ 9223372036854775807)
    (hc : w.cell? ⟨rb, 0, none⟩ = some (.string (S l))) (hf : w.frozen? ⟨rb, 0, none⟩ = false) :
    Calls Tryz.prog 55 #[.pointer (some ⟨rb, 0, none⟩)] w fun e w' => e = .returned (.int .i64 (l.getD 0 0).toNat) ∧ Adv ⟨rb, 0, none⟩ (l.drop 1) w w' := by
  have hk := rtake_any rb l 1 w hl hc hf
  cases l with
  | nil =>
    have he : (S []).toList.isEmpty = true := by rw [Lib.toList_data, S_list]; rfl
    simp only [List.take_nil, List.drop_nil] at hk ⊢
    go_enter Tryz.func55, Tryz.ntmps55
    go_wp2_with (go_at_call 53; refine hk.mono ?_; rintro e w' ⟨rfl, hb⟩)
    go_ret
    exact ⟨rfl, hb⟩
  | cons c l =>
    have hs := S_size [c]
    have hg : ∀ h, (S [c])[0]'h = c := fun h => S_get _ _ h
    have h8 := c.toNat_lt
    have he : (S [c]).toList.isEmpty = false := by rw [Lib.toList_data, S_list]; rfl
    simp only [List.take_succ_cons, List.take_zero, List.drop_succ_cons, List.drop_zero, List.getD_cons_zero] at hk ⊢
    go_enter Tryz.func55, Tryz.ntmps55
    go_wp2_with (go_at_call 53; refine hk.mono ?_; rintro e w' ⟨rfl, hb⟩)
    go_ret
    exact ⟨rfl, hb⟩

/-- What the loop of the document's 'number' keeps, j rounds on. -/
def RNumAt (rb : Nat) (w : World) (o : Nat × List UInt8) (v i : Value) (wr : World) : Prop :=
  ∃ (j m : Nat) (l' : List UInt8), j ≤ 5 ∧ m < 2 ^ (7 * j) ∧ rNumF (5 - j) j m l' = o ∧ v = .int .i64 (m : Nat) ∧ i = .int .i64 (j : Nat) ∧ l'.length ≤ 9223372036854775807 ∧ Adv ⟨rb, 0, none⟩ l' w wr

theorem rNumF_step (r j m : Nat) (l : List UInt8) : rNumF (r + 1) j m l = if (l.getD 0 0).toNat < 128 then (m + (l.getD 0 0).toNat % 128 * 128 ^ j, l.drop 1) else rNumF r (j + 1) (m + (l.getD 0 0).toNat % 128 * 128 ^ j) (l.drop 1) := by
  cases l with
  | nil => simp [rNumF]
  | cons c l => rfl

set_option maxRecDepth 20000 in
set_option maxHeartbeats 1000000 in
theorem rnumber_rd (rb : Nat) (l : List UInt8) (w : World) (hl : l.length ≤ 9223372036854775807)
    (hc : w.cell? ⟨rb, 0, none⟩ = some (.string (S l))) (hf : w.frozen? ⟨rb, 0, none⟩ = false) :
    Calls Tryz.prog 52 #[.pointer (some ⟨rb, 0, none⟩)] w fun e w' => e = .returned (.int .i64 (rNum l).1) ∧ Adv ⟨rb, 0, none⟩ (rNum l).2 w w' := by
  go_enter Tryz.func52, Tryz.ntmps52
  go_wp2
  go_loopw [3, 4, 5] (fun v i _ wr => RNumAt rb w (rNum l) v i wr) (fun _ i _ _ => (5 - intOf i).toNat)
  case atStart => exact ⟨0, 0, l, by omega, by omega, rfl, rfl, rfl, hl, Adv.refl hc hf⟩
  case round =>
    obtain ⟨j, m, l', hj, hm, hq, rfl, rfl, hl', hb⟩ := hrel
    have hcw := hb.rest
    have hfw := hb.mark
    have hk := rone_any rb l' wr hl' hcw hfw
    have hd0 : (l'.drop 1).length ≤ 9223372036854775807 := by rw [List.length_drop]; omega
    have HD : Hid _ := hd0
    clear hd0
    have h8 : (l'.getD 0 0).toNat < 256 := (l'.getD 0 0).toNat_lt
    by_cases h5 : j < 5
    · rw [show 5 - j = 4 - j + 1 from by omega, rNumF_step] at hq
      generalize (l'.getD 0 0).toNat = c at hk h8 hq
      generalize l'.drop 1 = tl at hk hq HD
      have hnx := num_next m c j hm
      clear hc hf hcw hfw hl' hl
      have hjx : j = 0 ∨ j = 1 ∨ j = 2 ∨ j = 3 ∨ j = 4 := by omega
      by_cases hlt : c < 128
      · rw [if_pos hlt] at hq
        have HQ : Hid _ := hq
        clear hq hnx
        rcases hjx with rfl | rfl | rfl | rfl | rfl
        all_goals
          clear h5 hj
          go_wp2_with (go_at_call 55; refine hk.mono ?_; rintro e w' ⟨rfl, hb'⟩)
          go_ret
          rw [← HQ.out]
          refine ⟨?_, hb.trans hb'⟩
          refine congrArg (fun z => Ending.returned (.int .i64 z)) ?_
          go_num
      · rw [if_neg hlt] at hq
        have HQ : Hid _ := hq
        have HN : Hid _ := hnx
        clear hq hnx
        rcases hjx with rfl | rfl | rfl | rfl | rfl
        all_goals
          clear h5 hj
          go_wp2_with (go_at_call 55; refine hk.mono ?_; rintro e w' ⟨rfl, hb'⟩)
          go_roundw
        all_goals first
          | (refine ⟨_, _, tl, ?_, HN.out, HQ.out, congrArg (Value.int .i64) ?_, ?_, HD.out, hb.trans hb'⟩
             · omega
             · go_num
             · rfl)
          | simp [intOf]
    · obtain rfl : j = 5 := by omega
      have HQ : Hid _ := hq
      clear hq h5 hj
      go_wp2
      go_ret
      rw [← HQ.out]
      exact ⟨rfl, hb⟩

/-- The number of the first j bytes, the first the heaviest. -/
def big (l : List UInt8) : Nat → Nat
  | 0 => 0
  | j + 1 => 256 * big l j + (l.getD j 0).toNat
theorem big_lt (l : List UInt8) (j : Nat) : big l j < 256 ^ j := by
  induction j with
  | zero => simp [big]
  | succ j ih =>
    have := (l.getD j 0).toNat_lt
    rw [Nat.pow_succ]; unfold big; omega
theorem big_r4 (l : List UInt8) : (big l 4, l.drop 4) = r4 l := by
  unfold r4; simp only [big]; congr 1; omega
theorem getD_drop0 (l : List UInt8) (j : Nat) : (l.drop j).getD 0 0 = l.getD j 0 := by
  simp [List.getD_eq_getElem?_getD, List.getElem?_drop]

set_option maxRecDepth 20000 in
set_option maxHeartbeats 400000 in
theorem rfour_rd (rb : Nat) (l : List UInt8) (w : World) (hl : l.length ≤ 9223372036854775807)
    (hc : w.cell? ⟨rb, 0, none⟩ = some (.string (S l))) (hf : w.frozen? ⟨rb, 0, none⟩ = false) :
    Calls Tryz.prog 57 #[.pointer (some ⟨rb, 0, none⟩)] w fun e w' => e = .returned (.int .i64 (r4 l).1) ∧ Adv ⟨rb, 0, none⟩ (r4 l).2 w w' := by
  rw [← big_r4]
  go_enter Tryz.func57, Tryz.ntmps57
  go_wp2
  go_loopw [3, 4, 5] (fun v i _ wr => ∃ j : Nat, j ≤ 4 ∧ v = .int .i64 (big l j) ∧ i = .int .i64 j ∧ Adv ⟨rb, 0, none⟩ (l.drop j) w wr) (fun _ i _ _ => (4 - intOf i).toNat)
  case atStart => exact ⟨0, by omega, rfl, rfl, Adv.refl hc hf⟩
  case round =>
    obtain ⟨j, hj, rfl, rfl, hb⟩ := hrel
    have hcw := hb.rest
    have hfw := hb.mark
    have hd0 : (l.drop j).length ≤ 9223372036854775807 := by rw [List.length_drop]; omega
    have hk := rone_any rb (l.drop j) wr hd0 hcw hfw
    rw [getD_drop0, List.drop_drop] at hk
    have h8 : (l.getD j 0).toNat < 256 := (l.getD j 0).toNat_lt
    have hbig := big_lt l j
    have hnx : big l (j + 1) = 256 * big l j + (l.getD j 0).toNat := rfl
    generalize (l.getD j 0).toNat = c at hk h8 hnx
    generalize hM : big l j = m at hbig hnx ⊢
    have HM : Hid _ := hM
    clear hM
    clear hc hf hcw hfw hd0
    by_cases h5 : j < 4
    · have HX : Hid _ := hnx
      clear hnx
      have hm : m < 16777216 := by
        have hjx : j = 0 ∨ j = 1 ∨ j = 2 ∨ j = 3 := by omega
        rcases hjx with rfl | rfl | rfl | rfl <;> simp at hbig <;> omega
      clear hbig
      go_wp2_with (go_at_call 55; refine hk.mono ?_; rintro e w' ⟨rfl, hb'⟩)
      go_roundw
      case rel =>
        refine ⟨j + 1, by omega, ?_, ?_, hb.trans hb'⟩
        · rw [HX.out]; go_num
        · go_num
      case measure => simp [intOf]; omega
    · obtain rfl : j = 4 := by omega
      clear hnx hbig
      go_wp2
      go_ret
      rw [HM.out]
      exact ⟨rfl, hb⟩
end Go.Proofs.YtddcbeeldjjmeaaGreatDoor.Tw
