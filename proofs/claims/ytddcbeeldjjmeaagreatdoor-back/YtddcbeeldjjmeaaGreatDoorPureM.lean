/- Manifests as plain data: written, and read back. -/
import Derived.Test.YtddcbeeldjjmeaaGreatDoorPure
namespace Go.Proofs.YtddcbeeldjjmeaaGreatDoor.Pu
set_option linter.unusedVariables false
set_option linter.unusedSimpArgs false

structure Mf where
  width : Int
  root : Int
  size : Int
  total : Int
  digests : List Int
/-- A number that a digest of so many bits may be. -/
def okD (w : Nat) (d : Int) : Bool := decide (0 ≤ d ∧ d < 2 ^ w)
def okM (m : Mf) : Bool :=
  decide (1 ≤ m.width ∧ m.width ≤ 32) && okD m.width.toNat m.root && decide (8 ≤ m.size ∧ m.size ≤ 1000) && decide (1 ≤ m.total ∧ m.total ≤ 100000) &&
    decide ((m.digests.length : Int) = (m.total + m.size - 1) / m.size) && m.digests.all (okD m.width.toNat)
def eDs (ds : List Int) : List UInt8 := (ds.map fun d => e4 d.toNat).flatten
def encM (m : Mf) : Option (List UInt8) :=
  if okM m = true then some (b8 m.width.toNat :: (e4 m.root.toNat ++ (eNum m.size.toNat ++ (eNum m.total.toNat ++ eDs m.digests)))) else none

def pDig (w : Nat) (l : List UInt8) : Option (Nat × List UInt8) :=
  match p4 l with
  | none => none
  | some (d, r) => if d < 2 ^ w then some (d, r) else none
def pDs (w : Nat) : Nat → List UInt8 → Option (List Int × List UInt8)
  | 0, l => some ([], l)
  | n + 1, l => match pDig w l with
    | none => none
    | some (d, r) => match pDs w n r with
      | none => none
      | some (ds, r') => some ((d : Int) :: ds, r')
def pSizes (l : List UInt8) : Option (Nat × Nat × List UInt8) :=
  match pNum l with
  | none => none
  | some (s, l1) => if 8 ≤ s ∧ s ≤ 1000 then
      match pNum l1 with
      | none => none
      | some (t, l2) => if 1 ≤ t ∧ t ≤ 100000 then some (s, t, l2) else none
    else none
def pM : List UInt8 → Option (Mf × List UInt8)
  | [] => none
  | c :: l => if 1 ≤ c.toNat ∧ c.toNat ≤ 32 then
      match pDig c.toNat l with
      | none => none
      | some (x, l1) => match pSizes l1 with
        | none => none
        | some (s, t, l2) => match pDs c.toNat ((t + s - 1) / s) l2 with
          | none => none
          | some (ds, l3) => some (⟨c.toNat, x, s, t, ds⟩, l3)
    else none
def decM (b : List UInt8) : Option Mf :=
  match pM b with
  | some (m, []) => some m
  | _ => none

theorem pow_le32 (w : Nat) (h : w ≤ 32) : 2 ^ w ≤ 4294967296 := Nat.le_trans (Nat.pow_le_pow_right (by omega) h) (by decide)
theorem okD_nat (w : Nat) (d : Int) (h : okD w d = true) : d.toNat < 2 ^ w ∧ (d.toNat : Int) = d := by
  simp only [okD, decide_eq_true_eq] at h
  obtain ⟨h1, h2⟩ := h
  have e : (d.toNat : Int) = d := by omega
  refine ⟨?_, e⟩
  rw [← e] at h2
  exact_mod_cast h2
theorem okD_of (w d : Nat) (h : d < 2 ^ w) : okD w (d : Int) = true := by
  simp only [okD, decide_eq_true_eq]
  exact ⟨by omega, by exact_mod_cast h⟩
theorem pDig_e (w d : Nat) (l : List UInt8) (hw : w ≤ 32) (h : d < 2 ^ w) : pDig w (e4 d ++ l) = some (d, l) := by
  unfold pDig
  rw [p4_e d l (Nat.lt_of_lt_of_le h (pow_le32 w hw))]
  simp only
  rw [if_pos h]
theorem pDig_sound (w d : Nat) (b l : List UInt8) (h : pDig w b = some (d, l)) : b = e4 d ++ l ∧ d < 2 ^ w := by
  unfold pDig at h
  cases h4 : p4 b with
  | none => rw [h4] at h; cases h
  | some x =>
    obtain ⟨n, r⟩ := x
    rw [h4] at h
    simp only at h
    by_cases hn : n < 2 ^ w
    · rw [if_pos hn] at h
      simp only [Option.some.injEq, Prod.mk.injEq] at h
      obtain ⟨rfl, rfl⟩ := h
      exact ⟨(p4_sound _ _ _ h4).1, hn⟩
    · rw [if_neg hn] at h; cases h
theorem eDs_cons (d : Int) (ds : List Int) : eDs (d :: ds) = e4 d.toNat ++ eDs ds := by simp [eDs]
theorem eDs_len (ds : List Int) : (eDs ds).length = 4 * ds.length := by
  induction ds with
  | nil => rfl
  | cons d ds ih => rw [eDs_cons, List.length_append, ih]; simp [e4]; omega
theorem pDs_succ (w n : Nat) (l : List UInt8) : pDs w (n + 1) l = match pDig w l with | none => none | some (d, r) => match pDs w n r with | none => none | some (ds, r') => some ((d : Int) :: ds, r') := rfl
theorem pDs_e (w : Nat) (hw : w ≤ 32) : ∀ (ds : List Int) (l : List UInt8), (∀ d, d ∈ ds → okD w d = true) → pDs w ds.length (eDs ds ++ l) = some (ds, l)
  | [], l, _ => rfl
  | d :: ds, l, h => by
    obtain ⟨h1, h2⟩ := okD_nat w d (h d (List.mem_cons_self ..))
    rw [eDs_cons, List.append_assoc]
    have ih := pDs_e w hw ds l fun x hx => h x (List.mem_cons_of_mem _ hx)
    rw [List.length_cons, pDs_succ, pDig_e w _ _ hw h1]
    dsimp only
    rw [ih]
    dsimp only
    rw [h2]
theorem pDs_sound (w : Nat) : ∀ (n : Nat) (b l : List UInt8) (ds : List Int), pDs w n b = some (ds, l) → b = eDs ds ++ l ∧ ds.length = n ∧ ∀ d, d ∈ ds → okD w d = true
  | 0, b, l, ds, h => by
    simp only [pDs, Option.some.injEq, Prod.mk.injEq] at h
    obtain ⟨rfl, rfl⟩ := h
    exact ⟨rfl, rfl, fun d hd => by cases hd⟩
  | n + 1, b, l, ds, h => by
    rw [pDs_succ] at h
    cases hd : pDig w b with
    | none => rw [hd] at h; cases h
    | some x =>
      obtain ⟨d, r⟩ := x
      rw [hd] at h
      simp only at h
      cases hr : pDs w n r with
      | none => rw [hr] at h; cases h
      | some y =>
        obtain ⟨es, r'⟩ := y
        rw [hr] at h
        simp only [Option.some.injEq, Prod.mk.injEq] at h
        obtain ⟨rfl, rfl⟩ := h
        obtain ⟨e1, e2⟩ := pDig_sound _ _ _ _ hd
        obtain ⟨e3, e4', e5⟩ := pDs_sound w n _ _ _ hr
        refine ⟨?_, by simp [e4'], fun x hx => ?_⟩
        · rw [e1, e3, eDs_cons, List.append_assoc]; rfl
        · rcases List.mem_cons.1 hx with rfl | hx
          · exact okD_of w d e2
          · exact e5 x hx
theorem pSizes_e (s t : Nat) (l : List UInt8) (hs : 8 ≤ s ∧ s ≤ 1000) (ht : 1 ≤ t ∧ t ≤ 100000) : pSizes (eNum s ++ (eNum t ++ l)) = some (s, t, l) := by
  unfold pSizes
  rw [pNum_e _ _ (by omega)]
  simp only
  rw [if_pos hs, pNum_e _ _ (by omega)]
  simp only
  rw [if_pos ht]
theorem pSizes_sound (s t : Nat) (b l : List UInt8) (h : pSizes b = some (s, t, l)) : b = eNum s ++ (eNum t ++ l) ∧ (8 ≤ s ∧ s ≤ 1000) ∧ 1 ≤ t ∧ t ≤ 100000 := by
  unfold pSizes at h
  cases h1 : pNum b with
  | none => rw [h1] at h; cases h
  | some x =>
    obtain ⟨s', l1⟩ := x
    rw [h1] at h
    simp only at h
    by_cases hs : 8 ≤ s' ∧ s' ≤ 1000
    · rw [if_pos hs] at h
      cases h2 : pNum l1 with
      | none => rw [h2] at h; cases h
      | some y =>
        obtain ⟨t', l2⟩ := y
        rw [h2] at h
        simp only at h
        by_cases ht : 1 ≤ t' ∧ t' ≤ 100000
        · rw [if_pos ht] at h
          simp only [Option.some.injEq, Prod.mk.injEq] at h
          obtain ⟨rfl, rfl, rfl⟩ := h
          have a1 := (pNum_sound _ _ _ h1).1
          have a2 := (pNum_sound _ _ _ h2).1
          exact ⟨by rw [a1, a2], hs, ht⟩
        · rw [if_neg ht] at h; cases h
    · rw [if_neg hs] at h; cases h
theorem okM_iff (m : Mf) : okM m = true ↔ (1 ≤ m.width ∧ m.width ≤ 32) ∧ okD m.width.toNat m.root = true ∧ (8 ≤ m.size ∧ m.size ≤ 1000) ∧ (1 ≤ m.total ∧ m.total ≤ 100000) ∧
    (m.digests.length : Int) = (m.total + m.size - 1) / m.size ∧ ∀ d, d ∈ m.digests → okD m.width.toNat d = true := by
  simp only [okM, Bool.and_eq_true, decide_eq_true_eq, List.all_eq_true]
  constructor
  · rintro ⟨⟨⟨⟨⟨a, b⟩, c⟩, d⟩, e⟩, f⟩; exact ⟨a, b, c, d, e, f⟩
  · rintro ⟨a, b, c, d, e, f⟩; exact ⟨⟨⟨⟨⟨a, b⟩, c⟩, d⟩, e⟩, f⟩
theorem chunks_nat (s t : Nat) (hs : 8 ≤ s) (ht : 1 ≤ t) : ((t : Int) + s - 1) / s = ((t + s - 1) / s : Nat) := by
  have : (t : Int) + s - 1 = ((t + s - 1 : Nat) : Int) := by omega
  rw [this]
  exact (Int.natCast_ediv _ _).symm
theorem pM_cons (c : UInt8) (l : List UInt8) : pM (c :: l) = if 1 ≤ c.toNat ∧ c.toNat ≤ 32 then
      match pDig c.toNat l with
      | none => none
      | some (x, l1) => match pSizes l1 with
        | none => none
        | some (s, t, l2) => match pDs c.toNat ((t + s - 1) / s) l2 with
          | none => none
          | some (ds, l3) => some (⟨c.toNat, x, s, t, ds⟩, l3)
    else none := rfl
theorem encM_pM (m : Mf) (b l : List UInt8) (h : encM m = some b) : pM (b ++ l) = some (m, l) := by
  unfold encM at h
  by_cases hk : okM m = true
  · rw [if_pos hk] at h
    cases h
    obtain ⟨w, x, s, t, ds⟩ := m
    obtain ⟨hw, hx, hs, ht, hn, hd⟩ := (okM_iff _).1 hk
    simp only at hw hx hs ht hn hd ⊢
    obtain ⟨w', rfl⟩ : ∃ n : Nat, w = n := ⟨w.toNat, by omega⟩
    obtain ⟨s', rfl⟩ : ∃ n : Nat, s = n := ⟨s.toNat, by omega⟩
    obtain ⟨t', rfl⟩ : ∃ n : Nat, t = n := ⟨t.toNat, by omega⟩
    simp only [Int.toNat_natCast] at *
    obtain ⟨x1, x2⟩ := okD_nat _ _ hx
    have hb : (b8 w').toNat = w' := b8_toNat _ (by omega)
    rw [chunks_nat s' t' (by omega) (by omega)] at hn
    have hn' : ds.length = (t' + s' - 1) / s' := by exact_mod_cast hn
    rw [List.cons_append, List.append_assoc, List.append_assoc, List.append_assoc, pM_cons, hb, if_pos (by omega), pDig_e _ _ _ (by omega) x1]
    dsimp only
    rw [pSizes_e _ _ _ (by omega) (by omega)]
    dsimp only
    rw [← hn', pDs_e _ (by omega) ds l hd]
    dsimp only
    rw [x2]
  · rw [if_neg hk] at h; cases h
theorem pM_sound (m : Mf) (b l : List UInt8) (h : pM b = some (m, l)) : ∃ c, encM m = some c ∧ b = c ++ l := by
  match b, h with
  | c :: b, h =>
    rw [pM_cons] at h
    by_cases hc : 1 ≤ c.toNat ∧ c.toNat ≤ 32
    · rw [if_pos hc] at h
      cases h1 : pDig c.toNat b with
      | none => rw [h1] at h; cases h
      | some x =>
        obtain ⟨x, l1⟩ := x
        rw [h1] at h
        simp only at h
        cases h2 : pSizes l1 with
        | none => rw [h2] at h; cases h
        | some y =>
          obtain ⟨s, t, l2⟩ := y
          rw [h2] at h
          simp only at h
          cases h3 : pDs c.toNat ((t + s - 1) / s) l2 with
          | none => rw [h3] at h; cases h
          | some z =>
            obtain ⟨ds, l3⟩ := z
            rw [h3] at h
            simp only [Option.some.injEq, Prod.mk.injEq] at h
            obtain ⟨rfl, rfl⟩ := h
            obtain ⟨a1, a2⟩ := pDig_sound _ _ _ _ h1
            obtain ⟨b1, b2, b3⟩ := pSizes_sound _ _ _ _ h2
            obtain ⟨c1, c2, c3⟩ := pDs_sound _ _ _ _ _ h3
            refine ⟨c :: (e4 x ++ (eNum s ++ (eNum t ++ eDs ds))), ?_, ?_⟩
            · unfold encM
              have hk : okM ⟨c.toNat, x, s, t, ds⟩ = true := by
                rw [okM_iff]
                simp only [Int.toNat_natCast]
                refine ⟨by omega, okD_of _ _ a2, by omega, by omega, ?_, c3⟩
                rw [chunks_nat s t (by omega) (by omega), c2]
              rw [if_pos hk]
              simp only [Int.toNat_natCast, b8_of]
            · rw [a1, b1, c1]; simp
    · rw [if_neg hc] at h; cases h
theorem decM_e (m : Mf) (b : List UInt8) (h : encM m = some b) : decM b = some m := by
  have := encM_pM m b [] h
  rw [List.append_nil] at this
  unfold decM
  rw [this]
theorem decM_sound (m : Mf) (b : List UInt8) (h : decM b = some m) : encM m = some b := by
  unfold decM at h
  cases hp : pM b with
  | none => rw [hp] at h; cases h
  | some x =>
    obtain ⟨m', l⟩ := x
    rw [hp] at h
    cases l with
    | nil =>
      simp only [Option.some.injEq] at h
      subst h
      obtain ⟨c, h1, h2⟩ := pM_sound _ _ _ hp
      rw [List.append_nil] at h2
      rw [h2]
      exact h1
    | cons c l => cases h
end Go.Proofs.YtddcbeeldjjmeaaGreatDoor.Pu
