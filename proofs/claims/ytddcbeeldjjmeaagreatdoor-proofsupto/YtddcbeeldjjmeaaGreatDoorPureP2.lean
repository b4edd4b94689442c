/- What the document's reader makes of whatever bytes as a proof; it is written just so again if they are one's, and else not. -/
import Derived.Test.YtddcbeeldjjmeaaGreatDoorPureP
namespace Go.Proofs.YtddcbeeldjjmeaaGreatDoor.Pu
set_option linter.unusedVariables false
set_option linter.unusedSimpArgs false

def rU (l : List UInt8) : Us × List UInt8 :=
  (⟨((l.getD 0 0).toNat : Int), (rPath (l.drop 1)).1, ((r4 (rPath (l.drop 1)).2).1 : Int)⟩, (r4 (rPath (l.drop 1)).2).2)
def rUs : Nat → List UInt8 → List Us
  | 0, _ => []
  | n + 1, l => (rU l).1 :: rUs n (rU l).2
def rUrest : Nat → List UInt8 → List UInt8
  | 0, l => l
  | n + 1, l => rUrest n (rU l).2
/-- The proof that is read: its bottom out of the first bytes, then its steps, 38 at most. -/
def rP (b : List UInt8) : Pf :=
  ⟨(rNode ((rNum b).2.take (rNum b).1)).1, rUs (min (rNum ((rNum b).2.drop (rNum b).1)).1 38) (rNum ((rNum b).2.drop (rNum b).1)).2⟩

theorem rU_e (u : Us) (l : List UInt8) (h : okU u = true) : rU (eU u ++ l) = (u, l) := by
  obtain ⟨h1, h2, h3⟩ := (okU_iff u).1 h
  obtain ⟨s, p, x⟩ := u
  simp only at h1 h2 h3
  have hx : 0 ≤ x ∧ x < 4294967296 := by simpa [is32] using h3
  unfold rU eU
  simp only [List.cons_append, List.getD_cons_zero, List.drop_succ_cons, List.drop_zero, List.append_assoc]
  rw [rPath_e p _ ((isPb_iff p).1 h2)]
  simp only
  rw [r4_e x.toNat _ (by omega), b8_toNat _ (by omega)]
  simp only
  rw [Int.toNat_of_nonneg h1.1, Int.toNat_of_nonneg hx.1]
theorem rUs_e : ∀ (us : List Us) (l : List UInt8), (∀ u, u ∈ us → okU u = true) → rUs us.length (eUs us ++ l) = us
  | [], l, _ => rfl
  | u :: us, l, h => by
    rw [eUs_cons, List.append_assoc]
    show (rU _).1 :: rUs us.length (rU _).2 = _
    rw [rU_e u _ (h u (List.mem_cons_self ..))]
    simp only
    rw [rUs_e us l fun x hx => h x (List.mem_cons_of_mem _ hx)]
theorem rUs_len : ∀ (n : Nat) (l : List UInt8), (rUs n l).length = n
  | 0, _ => rfl
  | n + 1, l => by show ((rU l).1 :: rUs n (rU l).2).length = _; simp [rUs_len n (rU l).2]
theorem rUs_snoc : ∀ (n : Nat) (l : List UInt8), rUs (n + 1) l = rUs n l ++ [(rU (rUrest n l)).1]
  | 0, l => rfl
  | n + 1, l => by
    show (rU l).1 :: rUs (n + 1) (rU l).2 = ((rU l).1 :: rUs n (rU l).2) ++ [(rU (rUrest n (rU l).2)).1]
    rw [rUs_snoc n (rU l).2]
    rfl
theorem rUrest_succ : ∀ (n : Nat) (l : List UInt8), rUrest (n + 1) l = (rU (rUrest n l)).2
  | 0, l => rfl
  | n + 1, l => rUrest_succ n (rU l).2

theorem rP_e (p : Pf) (b : List UInt8) (h : encP p = some b) : rP b = p := by
  obtain ⟨m, us⟩ := p
  unfold encP at h
  simp only at h
  cases hn : encN m with
  | none => rw [hn] at h; cases h
  | some c =>
    rw [hn] at h
    simp only at h
    by_cases hk : okUs us = true
    · rw [if_pos hk] at h; cases h
      obtain ⟨hl, hu⟩ := (okUs_iff us).1 hk
      have hcl := encN_len m c hn
      unfold rP
      rw [rNum_e c.length _ (by omega)]
      simp only [List.take_left', List.drop_left']
      rw [rNum_e us.length _ (by omega)]
      simp only
      have h1 := rNode_e m c [] hn
      rw [List.append_nil] at h1
      rw [h1, Nat.min_eq_left (by omega)]
      have h2 := rUs_e us [] hu
      rw [List.append_nil] at h2
      rw [h2]
    · rw [if_neg hk] at h; cases h
theorem rP_dec (b : List UInt8) (p : Pf) (h : decP b = some p) : rP b = p ∧ encP (rP b) = some b := by
  have he := decP_sound p b h
  have hr := rP_e p b he
  exact ⟨hr, by rw [hr]; exact he⟩
theorem rP_none (b : List UInt8) (h : decP b = none) : encP (rP b) ≠ some b := fun he => by
  rw [decP_e _ _ he] at h; cases h
end Go.Proofs.YtddcbeeldjjmeaaGreatDoor.Pu
