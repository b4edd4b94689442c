/- Rows of steps of one's own; EncodeProof, where there are bytes. -/
import Derived.Test.YtddcbeeldjjmeaaGreatDoorPrf3
import Derived.Test.YtddcbeeldjjmeaaGreatDoorDecP4
namespace Go.Proofs.YtddcbeeldjjmeaaGreatDoor.Tw
open Go.RowKit Go.Proofs.YtddcbeeldjjmeaaGreatDoor.Pu Go.Deep
set_option linter.unusedVariables false
set_option linter.unusedSimpArgs false

set_option maxHeartbeats 400000 in
theorem tencP_ok (p : Pf) (v : Value) (b : List UInt8) (w : World) (hv : URow w v p.ups) (h : encP p = some b) :
    Calls Tryz.prog 11 #[prfV p v] w fun e w' => e = .returned (.tuple #[.string (S b), .int .i64 0]) ∧ Below w.heap.size w w' := by
  have hk : ∀ o, Calls Tryz.prog 43 #[prfV p v] (w.alloc o) fun e w' => e = .returned (.tuple #[.string (S b), .nilIface]) ∧ Below (w.alloc o).heap.size (w.alloc o) w' := fun o => by
    unfold encP at h
    cases hn : encN p.bottom with
    | none => rw [hn] at h; cases h
    | some c =>
      rw [hn] at h
      dsimp only at h
      by_cases hk : okUs p.ups = true
      · rw [if_pos hk] at h; cases h
        exact wencP_ok p v c _ (hv.to ((Below.refl _ w).alloc (Nat.le_refl _) _)) hn hk
      · rw [if_neg hk] at h; cases h
  clear h hv
  unfold prfV at hk ⊢
  go_enter Tryz.func11, Tryz.ntmps11
  go_wp2_with fail
  refine (hk _).mono ?_
  rintro e w1 ⟨rfl, hb1⟩
  have hbx := ((Below.refl _ w).alloc (Nat.le_refl _) _).trans (hb1.mono (by simp))
  clear hb1 hk
  go_wp2_with fail
  refine (errno_nil _).mono ?_
  rintro e w' ⟨rfl, rfl⟩
  go_wp2
  go_ret2
  exact ⟨rfl, hbx⟩

/-- A row that came out of a reader. -/
theorem UBlk.urow {w : World} {g : Nat} {us : List Us} {F : Nat → Us} (h : UBlk w g us.length F) (hF : ∀ i (h : i < us.length), F i = us[i]) (cap : Nat) : URow w (.slice (some ⟨g, 0, none⟩) us.length cap) us := by
  refine ⟨_, cap, rfl, fun i hi => ⟨_, rfl, ?_⟩⟩
  have ea : (⟨g, 0, none⟩ : Addr).add (i * 3) = ⟨g, i * 3, none⟩ := by
    unfold Addr.add
    by_cases h0 : i * 3 = 0
    · rw [if_pos h0, h0]
    · rw [if_neg h0]; simp
  rw [ea, ← hF i hi]
  exact h.cells i hi
theorem urow_nil (w : World) : URow w (.slice none 0 0) [] := ⟨none, 0, rfl, fun i hi => absurd hi (Nat.not_lt_zero i)⟩
/-- A step's three cells. -/
def upC (u : Us) : List Value := [.int .i64 u.side, .string (S u.path), .int .i64 u.other]
def upCs (us : List Us) : List Value := (us.map upC).flatten
theorem upCs_snoc (us : List Us) (u : Us) : upCs (us ++ [u]) = upCs us ++ upC u := by simp [upCs]
theorem upCs_len (us : List Us) : (upCs us).length = us.length * 3 := by
  induction us with
  | nil => rfl
  | cons u us ih => unfold upCs at ih ⊢; simp [upC, ih]; omega
theorem upCs_get (us : List Us) : ∀ (j : Nat) (h : j < us.length), (upCs us)[j * 3]? = some (.int .i64 us[j].side) ∧ (upCs us)[j * 3 + 1]? = some (.string (S us[j].path)) ∧ (upCs us)[j * 3 + 2]? = some (.int .i64 us[j].other) := by
  induction us with
  | nil => intro j h; exact absurd h (Nat.not_lt_zero _)
  | cons u us ih =>
    intro j h
    have e : upCs (u :: us) = upC u ++ upCs us := by simp [upCs]
    rw [e]
    cases j with
    | zero => exact ⟨rfl, rfl, rfl⟩
    | succ j =>
      obtain ⟨a, b, c⟩ := ih j (by simpa using h)
      refine ⟨?_, ?_, ?_⟩
      · rw [List.getElem?_append_right (by simp [upC]; omega)]; simpa [upC, show (j + 1) * 3 - 3 = j * 3 by omega] using a
      · rw [List.getElem?_append_right (by simp [upC]; omega)]; simpa [upC, show (j + 1) * 3 + 1 - 3 = j * 3 + 1 by omega] using b
      · rw [List.getElem?_append_right (by simp [upC]; omega)]; simpa [upC, show (j + 1) * 3 + 2 - 3 = j * 3 + 2 by omega] using c

/-- A row of steps of one's own. -/
def OwnU (base : Nat) (w : World) (v : Value) (us : List Us) : Prop := w.ownsRow base 28 3 v us.length (upCs us)
theorem OwnU.nil (base : Nat) (w : World) : OwnU base w (.slice none 0 0) [] := ⟨by simp [upCs], Or.inl ⟨rfl, rfl⟩⟩
theorem OwnU.urow {base : Nat} {w : World} {v : Value} {us : List Us} (h : OwnU base w v us) : URow w v us := by
  obtain ⟨_, ⟨rfl, h0⟩ | ⟨g, cap, cur, rfl, hg, hb, hn, hcap, hcs, htk⟩⟩ := h
  · obtain rfl := List.length_eq_zero_iff.1 h0
    exact ⟨none, 0, rfl, fun i hi => absurd hi (Nat.not_lt_zero i)⟩
  · refine ⟨some ⟨g, 0, none⟩, cap, rfl, fun i hi => ⟨⟨g, 0, none⟩, rfl, ?_⟩⟩
    have ea : (⟨g, 0, none⟩ : Addr).add (i * 3) = ⟨g, i * 3, none⟩ := by
      unfold Addr.add
      by_cases h0 : i * 3 = 0
      · rw [if_pos h0, h0]
      · rw [if_neg h0]; simp
    rw [ea]
    obtain ⟨a, b, c⟩ := upCs_get us i hi
    have hl := upCs_len us
    have key : ∀ (k : Nat) (x : Value), k < us.length * 3 → (upCs us)[k]? = some x → w.cell? ⟨g, k, Option.none⟩ = some x := by
      intro k x hk hx
      rw [← htk, List.getElem?_take] at hx
      rw [if_pos (by omega), Array.getElem?_toList] at hx
      simp [World.cell?, hb, hx]
    exact ⟨key (i * 3) _ (by omega) a, key (i * 3 + 1) _ (by omega) b, key (i * 3 + 2) _ (by omega) c⟩
theorem OwnU.keep {base : Nat} {w w' : World} {v : Value} {l : List Us} (h : OwnU base w v l) (k : ∀ j, base ≤ j → j < w.heap.size → w'.heap[j]? = w.heap[j]?) : OwnU base w' v l := by
  obtain ⟨h1, ⟨rfl, h2⟩ | ⟨g, cap, cur, rfl, hg, hb, h3⟩⟩ := h
  · exact ⟨h1, Or.inl ⟨rfl, h2⟩⟩
  · refine ⟨h1, Or.inr ⟨g, cap, cur, rfl, hg, ?_, h3⟩⟩
    have hlt : g < w.heap.size := by
      by_cases hb' : g < w.heap.size
      · exact hb'
      · have : w.heap[g]? = Option.none := by simp; omega
        rw [this] at hb; cases hb
    rw [k g hg hlt]; exact hb
theorem OwnU.block {base : Nat} {w : World} {v : Value} {us : List Us} (h : OwnU base w v us) : ∀ k, v.ownBlock = some k → base ≤ k := by
  intro k hk
  obtain ⟨_, ⟨rfl, _⟩ | ⟨g, cap, cur, rfl, hg, _⟩⟩ := h
  · simp [Value.ownBlock] at hk
  · simp [Value.ownBlock] at hk; omega

end Go.Proofs.YtddcbeeldjjmeaaGreatDoor.Tw
