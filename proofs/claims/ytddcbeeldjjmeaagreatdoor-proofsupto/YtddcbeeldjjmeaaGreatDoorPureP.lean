/- Proofs as plain data: written, and read back. -/
import Derived.Test.YtddcbeeldjjmeaaGreatDoorPure
namespace Go.Proofs.YtddcbeeldjjmeaaGreatDoor.Pu
set_option linter.unusedVariables false
set_option linter.unusedSimpArgs false

structure Us where
  side : Int
  path : List UInt8
  other : Int
structure Pf where
  bottom : Nd
  ups : List Us
def okU (u : Us) : Bool := decide (0 ≤ u.side ∧ u.side ≤ 1) && isPb u.path && is32 u.other
def eU (u : Us) : List UInt8 := b8 u.side.toNat :: (ePath u.path ++ e4 u.other.toNat)
def eUs (us : List Us) : List UInt8 := (us.map eU).flatten
def okUs (us : List Us) : Bool := decide (us.length ≤ 37) && us.all okU
def encP (p : Pf) : Option (List UInt8) :=
  match encN p.bottom with
  | none => none
  | some b => if okUs p.ups = true then some (eNum b.length ++ (b ++ (eNum p.ups.length ++ eUs p.ups))) else none

def pU : List UInt8 → Option (Us × List UInt8)
  | [] => none
  | c :: l => if c.toNat ≤ 1 then
      match pPath l with
      | none => none
      | some (p, l1) => match p4 l1 with
        | none => none
        | some (x, l2) => some (⟨c.toNat, p, x⟩, l2)
    else none
def pUs : Nat → List UInt8 → Option (List Us × List UInt8)
  | 0, l => some ([], l)
  | n + 1, l => match pU l with
    | none => none
    | some (u, r) => match pUs n r with
      | none => none
      | some (us, r') => some (u :: us, r')
def pBot (l : List UInt8) : Option (Nd × List UInt8) :=
  match pNum l with
  | none => none
  | some (n, l1) => if l1.length < n then none else
    match decN (l1.take n) with
    | none => none
    | some m => some (m, l1.drop n)
def pP (l : List UInt8) : Option (Pf × List UInt8) :=
  match pBot l with
  | none => none
  | some (m, l1) => match pNum l1 with
    | none => none
    | some (n, l2) => if 37 < n then none else
      match pUs n l2 with
      | none => none
      | some (us, l3) => some (⟨m, us⟩, l3)
def decP (b : List UInt8) : Option Pf :=
  match pP b with
  | some (p, []) => some p
  | _ => none

theorem okU_iff (u : Us) : okU u = true ↔ (0 ≤ u.side ∧ u.side ≤ 1) ∧ isPb u.path = true ∧ is32 u.other = true := by
  simp only [okU, Bool.and_eq_true, decide_eq_true_eq]
  exact ⟨fun ⟨⟨a, b⟩, c⟩ => ⟨a, b, c⟩, fun ⟨a, b, c⟩ => ⟨⟨a, b⟩, c⟩⟩
theorem okUs_iff (us : List Us) : okUs us = true ↔ us.length ≤ 37 ∧ ∀ u, u ∈ us → okU u = true := by
  simp only [okUs, Bool.and_eq_true, decide_eq_true_eq, List.all_eq_true]
theorem pU_cons (c : UInt8) (l : List UInt8) : pU (c :: l) = if c.toNat ≤ 1 then
      match pPath l with
      | none => none
      | some (p, l1) => match p4 l1 with
        | none => none
        | some (x, l2) => some (⟨c.toNat, p, x⟩, l2)
    else none := rfl
theorem pU_e (u : Us) (l : List UInt8) (h : okU u = true) : pU (eU u ++ l) = some (u, l) := by
  obtain ⟨h1, h2, h3⟩ := (okU_iff u).1 h
  obtain ⟨s, p, x⟩ := u
  simp only [is32, decide_eq_true_eq] at h1 h2 h3
  have e1 : (s.toNat : Int) = s := by omega
  have e2 : (x.toNat : Int) = x := by omega
  have hb : (b8 s.toNat).toNat = s.toNat := b8_toNat _ (by omega)
  unfold eU
  dsimp only
  rw [List.cons_append, List.append_assoc, pU_cons, hb, if_pos (by omega), pPath_e _ _ ((isPb_iff p).1 h2)]
  dsimp only
  rw [p4_e _ _ (by omega)]
  dsimp only
  rw [e1, e2]
theorem pU_sound (u : Us) (b l : List UInt8) (h : pU b = some (u, l)) : b = eU u ++ l ∧ okU u = true := by
  match b, h with
  | c :: b, h =>
    rw [pU_cons] at h
    by_cases hc : c.toNat ≤ 1
    · rw [if_pos hc] at h
      cases h1 : pPath b with
      | none => rw [h1] at h; cases h
      | some x =>
        obtain ⟨p, l1⟩ := x
        rw [h1] at h
        dsimp only at h
        cases h2 : p4 l1 with
        | none => rw [h2] at h; cases h
        | some y =>
          obtain ⟨x, l2⟩ := y
          rw [h2] at h
          simp only [Option.some.injEq, Prod.mk.injEq] at h
          obtain ⟨rfl, rfl⟩ := h
          obtain ⟨a1, a2⟩ := pPath_sound _ _ _ h1
          obtain ⟨b1, b2⟩ := p4_sound _ _ _ h2
          refine ⟨?_, (okU_iff _).2 ⟨by simp only; omega, (isPb_iff p).2 a2, by simp [is32]; omega⟩⟩
          unfold eU
          dsimp only
          rw [a1, b1]
          simp only [Int.toNat_natCast, b8_of, List.cons_append, List.append_assoc]
    · rw [if_neg hc] at h; cases h
theorem eUs_cons (u : Us) (us : List Us) : eUs (u :: us) = eU u ++ eUs us := by simp [eUs]
theorem pUs_succ (n : Nat) (l : List UInt8) : pUs (n + 1) l = match pU l with | none => none | some (u, r) => match pUs n r with | none => none | some (us, r') => some (u :: us, r') := rfl
theorem pUs_e : ∀ (us : List Us) (l : List UInt8), (∀ u, u ∈ us → okU u = true) → pUs us.length (eUs us ++ l) = some (us, l)
  | [], l, _ => rfl
  | u :: us, l, h => by
    have ih := pUs_e us l fun x hx => h x (List.mem_cons_of_mem _ hx)
    rw [List.length_cons, eUs_cons, List.append_assoc, pUs_succ, pU_e u _ (h u (List.mem_cons_self ..))]
    dsimp only
    rw [ih]
theorem pUs_sound : ∀ (n : Nat) (b l : List UInt8) (us : List Us), pUs n b = some (us, l) → b = eUs us ++ l ∧ us.length = n ∧ ∀ u, u ∈ us → okU u = true
  | 0, b, l, us, h => by
    simp only [pUs, Option.some.injEq, Prod.mk.injEq] at h
    obtain ⟨rfl, rfl⟩ := h
    exact ⟨rfl, rfl, fun d hd => by cases hd⟩
  | n + 1, b, l, us, h => by
    rw [pUs_succ] at h
    cases hd : pU b with
    | none => rw [hd] at h; cases h
    | some x =>
      obtain ⟨d, r⟩ := x
      rw [hd] at h
      dsimp only at h
      cases hr : pUs n r with
      | none => rw [hr] at h; cases h
      | some y =>
        obtain ⟨es, r'⟩ := y
        rw [hr] at h
        simp only [Option.some.injEq, Prod.mk.injEq] at h
        obtain ⟨rfl, rfl⟩ := h
        obtain ⟨e1, e2⟩ := pU_sound _ _ _ hd
        obtain ⟨e3, e4', e5⟩ := pUs_sound n _ _ _ hr
        refine ⟨?_, by simp [e4'], fun x hx => ?_⟩
        · rw [e1, e3, eUs_cons, List.append_assoc]
        · rcases List.mem_cons.1 hx with rfl | hx
          · exact e2
          · exact e5 x hx
theorem encN_len (n : Nd) (b : List UInt8) (h : encN n = some b) : b.length ≤ 60 := by
  have hp : ∀ s, isPb s = true → (ePath s).length ≤ 15 := fun s hs => by
    have h1 := ((isPb_iff s).1 hs).2
    have h2 : (eNum s.length).length ≤ 10 := by
      have : ∀ (f m : Nat), (eNumF f m).length ≤ f := by
        intro f
        induction f with
        | zero => intro m; simp [eNumF]
        | succ f ih =>
          intro m
          unfold eNumF
          split
          · simp
          · simp only [List.length_cons]; have := ih (m / 128); omega
      exact this 10 _
    unfold ePath
    rw [List.length_append, pack_length]
    omega
  have hv : ∀ v : List UInt8, v.length ≤ 20 → (eVal v).length ≤ 30 := fun v hv => by
    have h2 : (eNum v.length).length ≤ 10 := by
      have : ∀ (f m : Nat), (eNumF f m).length ≤ f := by
        intro f
        induction f with
        | zero => intro m; simp [eNumF]
        | succ f ih =>
          intro m
          unfold eNumF
          split
          · simp
          · simp only [List.length_cons]; have := ih (m / 128); omega
      exact this 10 _
    unfold eVal
    rw [List.length_append]
    omega
  unfold encN at h
  by_cases h0 : n = empty
  · rw [if_pos h0] at h; cases h; simp
  · rw [if_neg h0] at h
    by_cases h1 : n.kind = 0 ∧ isPb n.path = true ∧ n.value.length ≤ 20 ∧ n.left = 0 ∧ n.right = 0
    · rw [if_pos h1] at h
      cases h
      have a := hp _ h1.2.1
      have b := hv _ h1.2.2.1
      simp only [List.length_cons, List.length_append]
      omega
    · rw [if_neg h1] at h
      by_cases h2 : n.kind = 1 ∧ isPb n.path = true ∧ n.value = [] ∧ is32 n.left = true ∧ is32 n.right = true
      · rw [if_pos h2] at h
        cases h
        have a := hp _ h2.2.1
        simp only [List.length_cons, List.length_append, e4, List.length_nil]
        omega
      · rw [if_neg h2] at h; cases h
theorem pBot_e (n : Nd) (b l : List UInt8) (h : encN n = some b) : pBot (eNum b.length ++ (b ++ l)) = some (n, l) := by
  have hl := encN_len n b h
  unfold pBot
  rw [pNum_e _ _ (by omega)]
  dsimp only
  rw [if_neg (by rw [List.length_append]; omega), List.take_left, List.drop_left, decN_e n b h]
theorem pBot_sound (n : Nd) (b l : List UInt8) (h : pBot b = some (n, l)) : ∃ c, encN n = some c ∧ b = eNum c.length ++ (c ++ l) := by
  unfold pBot at h
  cases h1 : pNum b with
  | none => rw [h1] at h; cases h
  | some x =>
    obtain ⟨k, l1⟩ := x
    rw [h1] at h
    dsimp only at h
    by_cases hk : l1.length < k
    · rw [if_pos hk] at h; cases h
    · rw [if_neg hk] at h
      cases h2 : decN (l1.take k) with
      | none => rw [h2] at h; cases h
      | some m =>
        rw [h2] at h
        simp only [Option.some.injEq, Prod.mk.injEq] at h
        obtain ⟨rfl, rfl⟩ := h
        refine ⟨l1.take k, decN_sound _ _ h2, ?_⟩
        rw [List.take_append_drop, List.length_take, Nat.min_eq_left (by omega)]
        exact (pNum_sound _ _ _ h1).1
theorem encP_pP (p : Pf) (b l : List UInt8) (h : encP p = some b) : pP (b ++ l) = some (p, l) := by
  unfold encP at h
  cases hn : encN p.bottom with
  | none => rw [hn] at h; cases h
  | some c =>
    rw [hn] at h
    dsimp only at h
    by_cases hk : okUs p.ups = true
    · rw [if_pos hk] at h
      cases h
      obtain ⟨h1, h2⟩ := (okUs_iff _).1 hk
      unfold pP
      rw [List.append_assoc, List.append_assoc, List.append_assoc, pBot_e _ _ _ hn]
      dsimp only
      rw [pNum_e _ _ (by omega)]
      dsimp only
      rw [if_neg (by omega), pUs_e _ _ h2]
    · rw [if_neg hk] at h; cases h
theorem pP_sound (p : Pf) (b l : List UInt8) (h : pP b = some (p, l)) : ∃ c, encP p = some c ∧ b = c ++ l := by
  unfold pP at h
  cases h1 : pBot b with
  | none => rw [h1] at h; cases h
  | some x =>
    obtain ⟨m, l1⟩ := x
    rw [h1] at h
    dsimp only at h
    cases h2 : pNum l1 with
    | none => rw [h2] at h; cases h
    | some y =>
      obtain ⟨n, l2⟩ := y
      rw [h2] at h
      dsimp only at h
      by_cases hn : 37 < n
      · rw [if_pos hn] at h; cases h
      · rw [if_neg hn] at h
        cases h3 : pUs n l2 with
        | none => rw [h3] at h; cases h
        | some z =>
          obtain ⟨us, l3⟩ := z
          rw [h3] at h
          simp only [Option.some.injEq, Prod.mk.injEq] at h
          obtain ⟨rfl, rfl⟩ := h
          obtain ⟨c, a1, a2⟩ := pBot_sound _ _ _ h1
          obtain ⟨b1, b2⟩ := pNum_sound _ _ _ h2
          obtain ⟨c1, c2, c3⟩ := pUs_sound _ _ _ _ h3
          refine ⟨eNum c.length ++ (c ++ (eNum us.length ++ eUs us)), ?_, ?_⟩
          · unfold encP
            dsimp only
            rw [a1]
            dsimp only
            rw [if_pos ((okUs_iff us).2 ⟨by omega, c3⟩)]
          · rw [a2, b1, c1, c2]
            simp only [List.append_assoc]
theorem decP_e (p : Pf) (b : List UInt8) (h : encP p = some b) : decP b = some p := by
  have := encP_pP p b [] h
  rw [List.append_nil] at this
  unfold decP
  rw [this]
theorem decP_sound (p : Pf) (b : List UInt8) (h : decP b = some p) : encP p = some b := by
  unfold decP at h
  cases hp : pP b with
  | none => rw [hp] at h; cases h
  | some x =>
    obtain ⟨m', l⟩ := x
    rw [hp] at h
    cases l with
    | nil =>
      simp only [Option.some.injEq] at h
      subst h
      obtain ⟨c, h1, h2⟩ := pP_sound _ _ _ hp
      rw [List.append_nil] at h2
      rw [h2]
      exact h1
    | cons c l => cases h
end Go.Proofs.YtddcbeeldjjmeaaGreatDoor.Pu
