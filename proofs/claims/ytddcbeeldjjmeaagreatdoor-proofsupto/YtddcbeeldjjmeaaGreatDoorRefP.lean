/- The document's answer: paths, read. -/
import Derived.Test.YtddcbeeldjjmeaaGreatDoorRefD
import Derived.Test.YtddcbeeldjjmeaaGreatDoorPath
namespace Go.Proofs.YtddcbeeldjjmeaaGreatDoor.Tw
open Go.RowKit Go.Proofs.YtddcbeeldjjmeaaGreatDoor.Pu
set_option linter.unusedVariables false
set_option linter.unusedSimpArgs false

theorem rNumF_lt (r : Nat) : ∀ (j n : Nat) (l : List UInt8), n < 2 ^ (7 * j) → (rNumF r j n l).1 < 2 ^ (7 * (j + r)) := by
  induction r with
  | zero => intro j n l h; exact h
  | succ r ih =>
    intro j n l h
    have hnx := num_next n (l.getD 0 0).toNat j h
    rw [rNumF_step]
    split
    · exact Nat.lt_of_lt_of_le hnx (Nat.pow_le_pow_right (by omega) (by omega))
    · have := ih (j + 1) _ (l.drop 1) hnx
      rw [show j + (r + 1) = j + 1 + r from by omega]
      exact this
theorem rNum_lt (l : List UInt8) : (rNum l).1 < 34359738368 := rNumF_lt 5 0 0 l (by simp)
theorem rNumF_rest (r : Nat) : ∀ (j n : Nat) (l : List UInt8), (rNumF r j n l).2.length ≤ l.length := by
  induction r with
  | zero => intro j n l; exact Nat.le_refl _
  | succ r ih =>
    intro j n l
    rw [rNumF_step]
    split
    · simp
    · have := ih (j + 1) (n + (l.getD 0 0).toNat % 128 * 128 ^ j) (l.drop 1)
      rw [List.length_drop] at this; omega
theorem rNum_rest (l : List UInt8) : (rNum l).2.length ≤ l.length := rNumF_rest 5 0 0 l
theorem signs_length (n : Nat) (p : List UInt8) : (signs n p).length = n := by simp [signs]
theorem signs_succ (n : Nat) (p : List UInt8) : signs (n + 1) p = signs n p ++ [sign p n] := by simp [signs, List.range_succ]
theorem sign_get (p : List UInt8) (k : Nat) (h : k / 8 < (S p).size) : (((((S p)[k / 8]'h).toNat : Nat) : Int) / 2 ^ (7 - k % 8)) % 2 = (bitAt p k : Int) := by
  have hg : ((S p)[k / 8]'h).toNat = (p.getD (k / 8) 0).toNat := by
    rw [S_get]
    rw [List.getD_eq_getElem?_getD, List.getElem?_eq_getElem (by rw [S_size] at h; exact h), Option.getD_some]
  rw [hg]
  unfold bitAt
  simp
theorem sign_out (p : List UInt8) (k : Nat) (h : ¬ k / 8 < p.length) : sign p k = 48 := by
  unfold sign bitAt
  rw [List.getD_eq_getElem?_getD, List.getElem?_eq_none (by omega)]
  simp [b8]

theorem sign_w (P : List UInt8) (k : Nat) (hz : k / 8 < (S P).size) : (wrap64 (((S P)[k / 8]'hz).toNat : Int) / 2 ^ (7 - k % 8)).tmod 2 = ((((S P)[k / 8]'hz).toNat : Int) / 2 ^ (7 - k % 8)) % 2 := by
  have h8 : ((S P)[k / 8]'hz).toNat < 256 := ((S P)[k / 8]'hz).toNat_lt
  have hw : wrap64 (((S P)[k / 8]'hz).toNat : Int) = (((S P)[k / 8]'hz).toNat : Int) := by
    generalize ((S P)[k / 8]'hz).toNat = z at h8
    first | (go_num; done) | (unfold wrap64; omega)
  rw [hw]
  exact Int.tmod_eq_emod_of_nonneg (Int.ediv_nonneg (by omega) (Int.le_of_lt (Int.pow_pos (by decide))))

set_option maxRecDepth 20000 in
set_option maxHeartbeats 1000000 in
theorem rpath_rd (rb : Nat) (l : List UInt8) (w : World) (hl : l.length ≤ 9223372036854775807)
    (hc : w.cell? ⟨rb, 0, none⟩ = some (.string (S l))) (hf : w.frozen? ⟨rb, 0, none⟩ = false) :
    Calls Tryz.prog 56 #[.pointer (some ⟨rb, 0, none⟩)] w fun e w' => e = .returned (.string (S (rPath l).1)) ∧ Adv ⟨rb, 0, none⟩ (rPath l).2 w w' := by
  have hk1 := rnumber_rd rb l w hl hc hf
  have hlt := rNum_lt l
  have hrest := rNum_rest l
  show Calls _ _ _ _ (fun e w' => e = .returned (.string (S (signs (min (rNum l).1 1000) ((rNum l).2.take ((min (rNum l).1 1000 + 7) / 8))))) ∧ Adv ⟨rb, 0, none⟩ ((rNum l).2.drop ((min (rNum l).1 1000 + 7) / 8)) w w')
  generalize (rNum l).1 = N at hk1 hlt ⊢
  generalize (rNum l).2 = tl at hk1 hrest ⊢
  have htl : tl.length ≤ 9223372036854775807 := by omega
  clear hrest hc hf hl
  have one48 : b8 48 = 48 := rfl
  by_cases hN : N ≤ 1000
  · rw [Nat.min_eq_left hN]
    generalize hP : tl.take ((N + 7) / 8) = P
    generalize hR : tl.drop ((N + 7) / 8) = R
    have hPl : P.length ≤ 9223372036854775807 := by rw [← hP, List.length_take]; omega
    have hsP := S_size P
    have HK : Hid (∀ (w' : World), Adv ⟨rb, 0, none⟩ tl w w' → Calls Tryz.prog 53 #[.pointer (some ⟨rb, 0, none⟩), .int .i64 (((N : Int) + 7) / 8)] w' fun e w2 => e = .returned (.string (S P)) ∧ Adv ⟨rb, 0, none⟩ R w' w2) := by
      intro w' hb
      have := rtake_any rb tl ((N + 7) / 8) w' htl hb.rest hb.mark
      rw [hP, hR] at this
      simpa using this
    clear hP hR htl hlt
    go_enter Tryz.func56, Tryz.ntmps56
    go_wp2_with (first | (go_at_call 52; refine hk1.mono ?_; rintro e w1 ⟨rfl, hb1⟩) | (go_at_call 53; refine (HK.out _ hb1).mono ?_; rintro e w2 ⟨rfl, hb2⟩))
    go_loopw [5, 6, 7] (fun v i _ wr => ∃ k : Nat, k ≤ N ∧ v = .string (S (signs k P)) ∧ i = .int .i64 k ∧ Adv ⟨rb, 0, none⟩ R w wr) (fun _ i _ _ => (N - intOf i).toNat)
    case atStart => exact ⟨0, by omega, rfl, rfl, hb1.trans hb2⟩
    case round =>
      obtain ⟨k, hk, rfl, rfl, hb⟩ := hrel
      have hsk := S_size (signs k P)
      rw [signs_length] at hsk
      have c48 := cat_run (S (signs k P)) ⟨#[48]⟩ (by omega) (by show 1 ≤ _; omega)
      have c49 := cat_run (S (signs k P)) ⟨#[49]⟩ (by omega) (by show 1 ≤ _; omega)
      by_cases hkn : k < N
      · by_cases hin : k / 8 < P.length
        · have hbit := bitAt_le P k
          have hg := sign_get P k (by omega)
          have hz : k / 8 < (S P).size := by omega
          by_cases h1 : bitAt P k = 1
          · have HS : Hid (sign P k = 49) := by unfold sign; rw [h1]; rfl
            rw [h1] at hg
            have hd : ((wrap64 (((S P)[k / 8]'hz).toNat : Int) / 2 ^ (7 - k % 8)).tmod 2 == 1) = true := by rw [sign_w P k hz, hg]; rfl
            go_wp2
            go_roundw
            case rel => exact ⟨k + 1, by omega, by rw [signs_succ, ← S_append, HS.out]; rfl, by go_num, hb⟩
            case measure => simp [intOf]; omega
          · have h0 : bitAt P k = 0 := by omega
            have HS : Hid (sign P k = 48) := by unfold sign; rw [h0]; rfl
            rw [h0] at hg
            have hd : ((wrap64 (((S P)[k / 8]'hz).toNat : Int) / 2 ^ (7 - k % 8)).tmod 2 == 1) = false := by rw [sign_w P k hz, hg]; rfl
            go_wp2
            go_roundw
            case rel => exact ⟨k + 1, by omega, by rw [signs_succ, ← S_append, HS.out]; rfl, by go_num, hb⟩
            case measure => simp [intOf]; omega
        · have HS : Hid _ := sign_out P k hin
          go_wp2
          go_roundw
          case rel => exact ⟨k + 1, by omega, by rw [signs_succ, ← S_append, HS.out]; rfl, by go_num, hb⟩
          case measure => simp [intOf]; omega
      · obtain rfl : k = N := by omega
        go_wp2
        go_ret
        exact ⟨rfl, hb⟩
  · rw [Nat.min_eq_right (by omega)]
    generalize hP : tl.take ((1000 + 7) / 8) = P
    generalize hR : tl.drop ((1000 + 7) / 8) = R
    have hPl : P.length ≤ 9223372036854775807 := by rw [← hP, List.length_take]; omega
    have hsP := S_size P
    have HK : Hid (∀ (w' : World), Adv ⟨rb, 0, none⟩ tl w w' → Calls Tryz.prog 53 #[.pointer (some ⟨rb, 0, none⟩), .int .i64 125] w' fun e w2 => e = .returned (.string (S P)) ∧ Adv ⟨rb, 0, none⟩ R w' w2) := by
      intro w' hb
      have := rtake_any rb tl ((1000 + 7) / 8) w' htl hb.rest hb.mark
      rw [hP, hR] at this
      exact this
    clear hP hR htl
    go_enter Tryz.func56, Tryz.ntmps56
    go_wp2_with (first | (go_at_call 52; refine hk1.mono ?_; rintro e w1 ⟨rfl, hb1⟩) | (go_at_call 53; refine (HK.out _ hb1).mono ?_; rintro e w2 ⟨rfl, hb2⟩))
    go_loopw [5, 6, 7] (fun v i _ wr => ∃ k : Nat, k ≤ 1000 ∧ v = .string (S (signs k P)) ∧ i = .int .i64 k ∧ Adv ⟨rb, 0, none⟩ R w wr) (fun _ i _ _ => (1000 - intOf i).toNat)
    case atStart => exact ⟨0, by omega, rfl, rfl, hb1.trans hb2⟩
    case round =>
      obtain ⟨k, hk, rfl, rfl, hb⟩ := hrel
      have hsk := S_size (signs k P)
      rw [signs_length] at hsk
      have c48 := cat_run (S (signs k P)) ⟨#[48]⟩ (by omega) (by show 1 ≤ _; omega)
      have c49 := cat_run (S (signs k P)) ⟨#[49]⟩ (by omega) (by show 1 ≤ _; omega)
      by_cases hkn : k < 1000
      · by_cases hin : k / 8 < P.length
        · have hbit := bitAt_le P k
          have hg := sign_get P k (by omega)
          have hz : k / 8 < (S P).size := by omega
          by_cases h1 : bitAt P k = 1
          · have HS : Hid (sign P k = 49) := by unfold sign; rw [h1]; rfl
            rw [h1] at hg
            have hd : ((wrap64 (((S P)[k / 8]'hz).toNat : Int) / 2 ^ (7 - k % 8)).tmod 2 == 1) = true := by rw [sign_w P k hz, hg]; rfl
            go_wp2
            go_roundw
            case rel => exact ⟨k + 1, by omega, by rw [signs_succ, ← S_append, HS.out]; rfl, by go_num, hb⟩
            case measure => simp [intOf]; omega
          · have h0 : bitAt P k = 0 := by omega
            have HS : Hid (sign P k = 48) := by unfold sign; rw [h0]; rfl
            rw [h0] at hg
            have hd : ((wrap64 (((S P)[k / 8]'hz).toNat : Int) / 2 ^ (7 - k % 8)).tmod 2 == 1) = false := by rw [sign_w P k hz, hg]; rfl
            go_wp2
            go_roundw
            case rel => exact ⟨k + 1, by omega, by rw [signs_succ, ← S_append, HS.out]; rfl, by go_num, hb⟩
            case measure => simp [intOf]; omega
        · have HS : Hid _ := sign_out P k hin
          go_wp2
          go_roundw
          case rel => exact ⟨k + 1, by omega, by rw [signs_succ, ← S_append, HS.out]; rfl, by go_num, hb⟩
          case measure => simp [intOf]; omega
      · obtain rfl : k = 1000 := by omega
        go_wp2
        go_ret
        exact ⟨rfl, hb⟩
end Go.Proofs.YtddcbeeldjjmeaaGreatDoor.Tw
