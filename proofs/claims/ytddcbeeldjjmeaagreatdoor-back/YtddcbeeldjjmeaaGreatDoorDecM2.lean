/- The program's reader: a manifest, whole. -/
import Derived.Test.YtddcbeeldjjmeaaGreatDoorDecM
namespace Go.Proofs.YtddcbeeldjjmeaaGreatDoor.Tw
open Go.RowKit Go.Proofs.YtddcbeeldjjmeaaGreatDoor.Pu
set_option linter.unusedVariables false
set_option linter.unusedSimpArgs false

theorem pNum_rest (l l1 : List UInt8) (n : Nat) (h : pNum l = some (n, l1)) : l1.length ≤ l.length := by
  rw [(pNum_sound _ _ _ h).1, List.length_append]; omega
theorem pSizes_rest (l l1 : List UInt8) (s t : Nat) (h : pSizes l = some (s, t, l1)) : l1.length ≤ l.length := by
  rw [(pSizes_sound _ _ _ _ h).1, List.length_append, List.length_append]; omega

set_option maxHeartbeats 1000000 in
theorem sizes_ok (rb : Nat) (l r : List UInt8) (s t : Nat) (w : World) (hp : pSizes l = some (s, t, r)) (hl : l.length ≤ 9223372036854775807)
    (hc : w.cell? ⟨rb, 0, none⟩ = some (.string (S l))) (hf : w.frozen? ⟨rb, 0, none⟩ = false) :
    Calls Tryz.prog 165 #[.pointer (some ⟨rb, 0, none⟩)] w fun e w' => e = .returned (.tuple #[.int .i64 s, .int .i64 t, .nilIface]) ∧ Adv ⟨rb, 0, none⟩ r w w' := by
  have hnn := neq_nil
  unfold pSizes at hp
  cases h1 : pNum l with
  | none => rw [h1] at hp; cases hp
  | some x =>
    obtain ⟨s', l1⟩ := x
    rw [h1] at hp
    simp only at hp
    by_cases hs : 8 ≤ s' ∧ s' ≤ 1000
    · rw [if_pos hs] at hp
      cases h2 : pNum l1 with
      | none => rw [h2] at hp; cases hp
      | some y =>
        obtain ⟨t', l2⟩ := y
        rw [h2] at hp
        simp only at hp
        by_cases ht : 1 ≤ t' ∧ t' ≤ 100000
        · rw [if_pos ht] at hp
          simp only [Option.some.injEq, Prod.mk.injEq] at hp
          obtain ⟨rfl, rfl, rfl⟩ := hp
          have hl1 : l1.length ≤ 9223372036854775807 := Nat.le_trans (pNum_rest _ _ _ h1) hl
          have hk1 := number_ok rb l l1 s' w h1 hl hc hf
          have hk2 := fun w hc hf => number_ok rb l1 l2 t' w h2 hl1 hc hf
          have hk3 := fun w => size_bound (s' : Int) true w (by simp; omega)
          have hk4 := fun w => total_bound (t' : Int) true w (by simp; omega)
          clear h1 h2 hc hf
          go_enter Tryz.func165, Tryz.ntmps165
          go_wp2_with fail
          refine hk1.mono ?_
          rintro e w1 ⟨rfl, hb1⟩
          go_wp2_with fail
          refine (hk3 _).mono ?_
          rintro e w' ⟨rfl, rfl⟩
          go_wp2_with fail
          refine (hk2 _ hb1.rest hb1.mark).mono ?_
          rintro e w2 ⟨rfl, hb2⟩
          have hb3 := hb1.trans hb2
          clear hb1 hb2
          go_wp2_with fail
          refine (hk4 _).mono ?_
          rintro e w' ⟨rfl, rfl⟩
          go_wp2_with fail
          refine bodyPost_ret (v := .tuple #[.int .i64 s', .int .i64 t', .nilIface]) (by simp [results, Tryz.results165, go_sem]; try rfl) rfl ⟨rfl, hb3⟩
        · rw [if_neg ht] at hp; cases hp
    · rw [if_neg hs] at hp; cases hp

set_option maxHeartbeats 2000000 in
theorem sizes_bad (A : Nat → Addr) (B : Nat) (rb : Nat) (l : List UInt8) (w : World) (hS : Sents A B w) (hB : B ≤ rb) (hp : pSizes l = none) (hl : l.length ≤ 9223372036854775807)
    (hc : w.cell? ⟨rb, 0, none⟩ = some (.string (S l))) (hf : w.frozen? ⟨rb, 0, none⟩ = false) :
    Calls Tryz.prog 165 #[.pointer (some ⟨rb, 0, none⟩)] w fun e w' => ∃ t x l', e = .returned (.tuple #[.int .i64 0, .int .i64 0, .iface t x]) ∧ Bad A (.iface t x) ∧ Adv ⟨rb, 0, none⟩ l' w w' := by
  have hnn := neq_nil
  have hhd := neq_held
  have hbs : Bad A (.iface 423 (.pointer (some (A 12)))) := Bad.base _ (by decide)
  have hbt : Bad A (.iface 423 (.pointer (some (A 13)))) := Bad.base _ (by decide)
  have hBs := hS.size
  unfold pSizes at hp
  cases h1 : pNum l with
  | none =>
    have hk1 := number_bad A B rb l w hS hB h1 hl hc hf
    clear hp h1 hc hf
    go_enter Tryz.func165, Tryz.ntmps165
    go_wp2_with fail
    refine hk1.mono ?_
    rintro e w1 ⟨t, x, l1, rfl, hbad, hb1⟩
    go_wp2_with fail
    refine (at_bad (A := A) _ _ _ hbad).mono ?_
    rintro e w' ⟨t', x', rfl, hbad', rfl⟩
    go_wp2_with fail
    refine bodyPost_ret (v := .tuple #[.int .i64 0, .int .i64 0, .iface t' x']) (by simp [results, Tryz.results165, go_sem]; try rfl) rfl ⟨_, _, _, rfl, hbad', hb1⟩
  | some x =>
    obtain ⟨s', l1⟩ := x
    rw [h1] at hp
    simp only at hp
    have hl1 : l1.length ≤ 9223372036854775807 := Nat.le_trans (pNum_rest _ _ _ h1) hl
    have hk1 := number_ok rb l l1 s' w h1 hl hc hf
    by_cases hs : 8 ≤ s' ∧ s' ≤ 1000
    · rw [if_pos hs] at hp
      have hk3 := fun w => size_bound (s' : Int) true w (by simp; omega)
      cases h2 : pNum l1 with
      | none =>
        have hk2 := fun w hS hc hf => number_bad A B rb l1 w hS hB h2 hl1 hc hf
        clear hp h1 h2 hc hf
        go_enter Tryz.func165, Tryz.ntmps165
        go_wp2_with fail
        refine hk1.mono ?_
        rintro e w1 ⟨rfl, hb1⟩
        go_wp2_with fail
        refine (hk3 _).mono ?_
        rintro e w' ⟨rfl, rfl⟩
        go_wp2_with fail
        refine (hk2 _ (hS.to (hb1.below hB hBs)) hb1.rest hb1.mark).mono ?_
        rintro e w2 ⟨t, x, l2, rfl, hbad, hb2⟩
        have hb3 := hb1.trans hb2
        clear hb1 hb2
        go_wp2_with fail
        refine (at_bad (A := A) _ _ _ hbad).mono ?_
        rintro e w' ⟨t', x', rfl, hbad', rfl⟩
        go_wp2_with fail
        refine bodyPost_ret (v := .tuple #[.int .i64 0, .int .i64 0, .iface t' x']) (by simp [results, Tryz.results165, go_sem]; try rfl) rfl ⟨_, _, _, rfl, hbad', hb3⟩
      | some y =>
        obtain ⟨t', l2⟩ := y
        rw [h2] at hp
        simp only at hp
        by_cases ht : 1 ≤ t' ∧ t' ≤ 100000
        · rw [if_pos ht] at hp; cases hp
        · have hk2 := fun w hc hf => number_ok rb l1 l2 t' w h2 hl1 hc hf
          have hk4 := fun w => total_bound (t' : Int) false w (by simp; omega)
          clear hp h1 h2 hc hf
          go_enter Tryz.func165, Tryz.ntmps165
          go_wp2_with fail
          refine hk1.mono ?_
          rintro e w1 ⟨rfl, hb1⟩
          go_wp2_with fail
          refine (hk3 _).mono ?_
          rintro e w' ⟨rfl, rfl⟩
          go_wp2_with fail
          refine (hk2 _ hb1.rest hb1.mark).mono ?_
          rintro e w2 ⟨rfl, hb2⟩
          have hb3 := hb1.trans hb2
          have hv := (hS.to (hb3.below hB hBs)).all
          clear hb1 hb2
          go_wp2_with fail
          refine (hk4 _).mono ?_
          rintro e w' ⟨rfl, rfl⟩
          go_wp2_with fail
          refine (at_bad (A := A) _ _ _ hbt).mono ?_
          rintro e w' ⟨t', x', rfl, hbad', rfl⟩
          go_wp2_with fail
          refine bodyPost_ret (v := .tuple #[.int .i64 0, .int .i64 0, .iface t' x']) (by simp [results, Tryz.results165, go_sem]; try rfl) rfl ⟨_, _, _, rfl, hbad', hb3⟩
    · have hk3 := fun w => size_bound (s' : Int) false w (by simp; omega)
      clear hp h1 hc hf
      go_enter Tryz.func165, Tryz.ntmps165
      go_wp2_with fail
      refine hk1.mono ?_
      rintro e w1 ⟨rfl, hb1⟩
      have hv := (hS.to (hb1.below hB hBs)).all
      go_wp2_with fail
      refine (hk3 _).mono ?_
      rintro e w' ⟨rfl, rfl⟩
      go_wp2_with fail
      refine (at_bad (A := A) _ _ _ hbs).mono ?_
      rintro e w' ⟨t', x', rfl, hbad', rfl⟩
      go_wp2_with fail
      refine bodyPost_ret (v := .tuple #[.int .i64 0, .int .i64 0, .iface t' x']) (by simp [results, Tryz.results165, go_sem]; try rfl) rfl ⟨_, _, _, rfl, hbad', hb1⟩
end Go.Proofs.YtddcbeeldjjmeaaGreatDoor.Tw
