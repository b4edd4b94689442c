/- EncodeNode at the face. -/
import Derived.Test.YtddcbeeldjjmeaaGreatDoorEncN
namespace Go.Proofs.YtddcbeeldjjmeaaGreatDoor.Tw
open Go.RowKit Go.Proofs.YtddcbeeldjjmeaaGreatDoor.Pu
set_option linter.unusedVariables false
set_option linter.unusedSimpArgs false

theorem S_ne (v : List UInt8) (h : ¬ v = []) : ¬ (S v).toList = [] := by rw [Lib.toList_data, S_list]; exact h

theorem check_no (A : Nat → Addr) (B : Nat) (n : Nd) (w : World) (hS : Sents A B w) (h : encN n = none) (hpl : n.path.length ≤ 9223372036854775807) :
    Calls Tryz.prog 105 #[nodeV n] w fun e w' => ∃ t x, e = .returned (.iface t x) ∧ NoB A (.iface t x) ∧ Below w.heap.size w w' := by
  obtain ⟨k, p, v, x, y⟩ := n
  simp only at hpl
  unfold encN at h
  by_cases he : (⟨k, p, v, x, y⟩ : Nd) = empty
  · rw [if_pos he] at h; cases h
  · rw [if_neg he] at h
    by_cases h0 : k = 0
    · subst h0
      by_cases hx : x = 0
      · subst hx
        by_cases hy : y = 0
        · subst hy
          cases hp : isPb p with
          | false => exact check_leaf_p A B p v hp hpl w hS
          | true =>
            by_cases hv : v.length ≤ 20
            · rw [if_pos ⟨rfl, hp, hv, rfl, rfl⟩] at h; cases h
            · exact check_leaf_v A B p v hp hpl (by omega) w hS
        · exact check_leaf_y A B p v y hy w hS
      · exact check_leaf_x A B p v x y hx w hS
    · by_cases h1 : k = 1
      · subst h1
        rw [if_neg (fun h => h0 h.1)] at h
        by_cases hv : v = []
        · subst hv
          cases hp : isPb p with
          | false => exact check_branch_p A B p x y hp hpl w hS
          | true =>
            cases hx : is32 x with
            | false => exact check_branch_x A B p x y hp hpl hx w hS
            | true =>
              cases hy : is32 y with
              | false => exact check_branch_y A B p x y hp hpl hx hy w hS
              | true => rw [if_pos ⟨rfl, hp, rfl, hx, hy⟩] at h; cases h
        · exact check_branch_v A B p v x y (S_ne v hv) w hS
      · by_cases h2 : k = 2
        · subst h2
          by_cases hp : p = []
          · subst hp
            by_cases hv : v = []
            · subst hv
              by_cases hx : x = 0
              · subst hx
                by_cases hy : y = 0
                · subst hy; exact absurd rfl he
                · exact check_empty_y A B y hy w hS
              · exact check_empty_x A B x y hx w hS
            · exact check_empty_v A B v x y (S_ne v hv) w hS
          · exact check_empty_p A B p v x y (S_ne p hp) w hS
        · exact check_kind A B k p v x y h0 h1 h2 w hS

theorem wenc_no (A : Nat → Addr) (B : Nat) (n : Nd) (w : World) (hS : Sents A B w) (h : encN n = none) (hpl : n.path.length ≤ 9223372036854775807) :
    Calls Tryz.prog 61 #[nodeV n] w fun e w' => ∃ t x, e = .returned (.tuple #[.string (S []), .iface t x]) ∧ NoB A (.iface t x) ∧ Below w.heap.size w w' :=
  enc_no A n w fun o => check_no A B n (w.alloc o) (hS.to ((Below.refl _ w).alloc hS.size _)) h hpl

set_option maxHeartbeats 400000 in
theorem tenc_ok (n : Nd) (b : List UInt8) (w : World) (h : encN n = some b) :
    Calls Tryz.prog 19 #[nodeV n] w fun e w' => e = .returned (.tuple #[.string (S b), .int .i64 0]) ∧ Below w.heap.size w w' := by
  have hk := fun w => wenc_ok n b w h
  clear h
  unfold nodeV at hk ⊢
  go_enter Tryz.func19, Tryz.ntmps19
  go_wp2_with fail
  refine (hk _).mono ?_
  rintro e w1 ⟨rfl, hb1⟩
  have hbx := ((Below.refl _ w).alloc (Nat.le_refl _) _).trans (hb1.mono (by simp))
  clear hb1 hk
  go_wp2_with fail
  refine (errno_nil _).mono ?_
  rintro e w' ⟨rfl, rfl⟩
  go_wp2
  go_ret2
  exact ⟨rfl, hbx⟩

set_option maxHeartbeats 400000 in
theorem tenc_no (A : Nat → Addr) (B : Nat) (n : Nd) (w : World) (hS : Sents A B w) (h : encN n = none) (hpl : n.path.length ≤ 9223372036854775807) :
    Calls Tryz.prog 19 #[nodeV n] w fun e w' => e = .returned (.tuple #[.string (S []), .int .i64 3]) ∧ Below w.heap.size w w' := by
  have hk := fun w hS => wenc_no A B n w hS h hpl
  have hS0 : ∀ o, Sents A B (w.alloc o) := fun o => hS.to ((Below.refl _ w).alloc hS.size _)
  have hBs := hS.size
  clear h
  unfold nodeV at hk ⊢
  go_enter Tryz.func19, Tryz.ntmps19
  go_wp2_with fail
  refine (hk _ (hS0 _)).mono ?_
  rintro e w1 ⟨t, x, rfl, hno, hb1⟩
  have hbx := ((Below.refl _ w).alloc (Nat.le_refl _) _).trans (hb1.mono (by simp))
  have hS1 := hS.to (hbx.mono hBs)
  clear hb1 hk
  go_wp2_with fail
  refine (errno_nob A B _ _ hS1 hno).mono ?_
  rintro e w2 ⟨rfl, hb2⟩
  have hb3 := hbx.trans (hb2.mono (by have := hbx.size; omega))
  clear hb2 hbx
  go_wp2
  go_ret2
  exact ⟨rfl, hb3⟩
end Go.Proofs.YtddcbeeldjjmeaaGreatDoor.Tw
