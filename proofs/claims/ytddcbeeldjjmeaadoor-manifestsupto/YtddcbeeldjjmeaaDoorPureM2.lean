/- What the document's reader makes of whatever bytes as a manifest; it is written just so again if they are one's, and else not. -/
import Derived.Test.YtddcbeeldjjmeaaDoorPureM
namespace Go.Proofs.YtddcbeeldjjmeaaDoor.Pu
set_option linter.unusedVariables false
set_option linter.unusedSimpArgs false

/-- Numbers of four bytes each, as long as there are bytes. -/
def rDsF : Nat → List UInt8 → List Int
  | 0, _ => []
  | n + 1, l => if l = [] then [] else ((r4 l).1 : Int) :: rDsF n (l.drop 4)
def rDs (l : List UInt8) : List Int := rDsF l.length l
def rM (b : List UInt8) : Mf :=
  ⟨(b.getD 0 0).toNat, (r4 (b.drop 1)).1, (rNum (r4 (b.drop 1)).2).1, (rNum (rNum (r4 (b.drop 1)).2).2).1, rDs (rNum (rNum (r4 (b.drop 1)).2).2).2⟩

theorem rDsF_e : ∀ (ds : List Int) (n : Nat), (∀ d, d ∈ ds → 0 ≤ d ∧ d < 4294967296) → ds.length ≤ n → rDsF n (eDs ds) = ds
  | [], n, _, _ => by cases n <;> simp [rDsF, eDs]
  | d :: ds, 0, _, h => by simp at h
  | d :: ds, n + 1, hd, h => by
    obtain ⟨h0, h1⟩ := hd d (List.mem_cons_self ..)
    have e := r4_e d.toNat (eDs ds) (by omega)
    have e2 : (eDs (d :: ds)).drop 4 = eDs ds := by rw [eDs_cons]; simp [e4]
    unfold rDsF
    rw [if_neg (by rw [eDs_cons]; simp [e4]), e2, rDsF_e ds n (fun x hx => hd x (List.mem_cons_of_mem _ hx)) (by simpa using h), eDs_cons, e]
    simp only
    rw [Int.toNat_of_nonneg h0]
theorem rDs_e (ds : List Int) (hd : ∀ d, d ∈ ds → 0 ≤ d ∧ d < 4294967296) : rDs (eDs ds) = ds := rDsF_e ds _ hd (by rw [eDs_len]; omega)

theorem rM_e (m : Mf) (b : List UInt8) (h : encM m = some b) : rM b = m := by
  unfold encM at h
  by_cases hk : okM m = true
  · rw [if_pos hk] at h; cases h
    obtain ⟨hw, hr, hs, ht, hn, hd⟩ := (okM_iff m).1 hk
    obtain ⟨wd, rt, sz, tt, ds⟩ := m
    simp only at hw hr hs ht hn hd ⊢
    have hp := pow_le32 wd.toNat (by omega)
    obtain ⟨hr1, hr2⟩ := okD_nat wd.toNat rt hr
    have hds : ∀ d, d ∈ ds → 0 ≤ d ∧ d < 4294967296 := fun d hd' => by
      obtain ⟨a, b⟩ := okD_nat wd.toNat d (hd d hd')
      omega
    unfold rM
    simp only [List.getD_cons_zero, List.drop_succ_cons, List.drop_zero]
    rw [r4_e rt.toNat _ (by omega)]
    simp only
    rw [rNum_e sz.toNat _ (by omega)]
    simp only
    rw [rNum_e tt.toNat _ (by omega)]
    simp only
    rw [rDs_e ds hds, b8_toNat _ (by omega)]
    congr 1 <;> omega
  · rw [if_neg hk] at h; cases h

theorem rM_dec (b : List UInt8) (m : Mf) (h : decM b = some m) : rM b = m ∧ encM (rM b) = some b := by
  have he := decM_sound m b h
  have hr := rM_e m b he
  exact ⟨hr, by rw [hr]; exact he⟩
theorem rM_none (b : List UInt8) (h : decM b = none) : encM (rM b) ≠ some b := fun he => by
  rw [decM_e _ _ he] at h; cases h
theorem rDsF_len : ∀ (n : Nat) (l : List UInt8), (rDsF n l).length ≤ n
  | 0, _ => by simp [rDsF]
  | n + 1, l => by
    unfold rDsF
    split
    · simp
    · simp only [List.length_cons]; have := rDsF_len n (l.drop 4); omega
theorem rDsF_enough : ∀ (n m : Nat) (l : List UInt8), l.length ≤ n → l.length ≤ m → rDsF n l = rDsF m l
  | 0, 0, l, _, _ => rfl
  | 0, m + 1, l, h, _ => by
    have : l = [] := List.length_eq_zero_iff.1 (by omega)
    subst this; simp [rDsF]
  | n + 1, 0, l, _, h => by
    have : l = [] := List.length_eq_zero_iff.1 (by omega)
    subst this; simp [rDsF]
  | n + 1, m + 1, l, h, h' => by
    unfold rDsF
    by_cases e : l = []
    · rw [if_pos e, if_pos e]
    · rw [if_neg e, if_neg e, rDsF_enough n m (l.drop 4) (by simp; omega) (by simp; omega)]
theorem rDs_step (l : List UInt8) (h : l ≠ []) : rDs l = ((r4 l).1 : Int) :: rDs (l.drop 4) := by
  cases l with
  | nil => exact absurd rfl h
  | cons c t =>
    unfold rDs
    rw [show (c :: t).length = t.length + 1 from rfl]
    conv => lhs; unfold rDsF
    rw [if_neg h, rDsF_enough t.length ((c :: t).drop 4).length _ (by simp) (Nat.le_refl _)]
end Go.Proofs.YtddcbeeldjjmeaaDoor.Pu
