/- Both readers of proofs, in one form; the writer. -/
import Derived.Test.YtddcbeeldjjmeaaGreatDoorRefPh
import Derived.Test.YtddcbeeldjjmeaaGreatDoorBooksW
import Derived.Test.YtddcbeeldjjmeaaGreatDoorCopyU
import Derived.Test.YtddcbeeldjjmeaaGreatDoorOwnUp
namespace Go.Proofs.YtddcbeeldjjmeaaGreatDoor.Tw
open Go.RowKit Go.Proofs.YtddcbeeldjjmeaaGreatDoor.Pu
set_option linter.unusedVariables false
set_option linter.unusedSimpArgs false

def zP : Pf := ⟨zeroN, []⟩
/-- What bytes say, or the empty proof; and the code. -/
def dP (l : List UInt8) : Pf := (decP l).getD zP
def dPX (l : List UInt8) : Int := if (decP l).isSome then 0 else 4

theorem tencP_any (A : Nat → Addr) (B : Nat) (p : Pf) (v : Value) (w : World) (hS : Sents A B w) (hT : Tab w) (hv : URow w v p.ups) (hp0 : p.bottom.path.length ≤ 9223372036854775807) (hpl : ∀ u, u ∈ p.ups → u.path.length ≤ 9223372036854775807) :
    Calls Tryz.prog 11 #[prfV p v] w fun e w' => e = .returned (.tuple #[.string (S (encPB p)), .int .i64 (encPE p)]) ∧ Below w.heap.size w w' := by
  unfold encPB encPE
  cases h : encP p with
  | some b => exact tencP_ok p v b w hv h
  | none => exact tencP_no A B p v w hS hT hv hp0 hpl h
/-- A row that came out. -/
def XU (w : World) (p : Option Addr) (us : List Us) : Prop := (∃ g F, p = some ⟨g, 0, none⟩ ∧ UBlk w g us.length F ∧ ∀ i (h : i < us.length), F i = us[i]) ∨ (p = none ∧ us = [])
theorem XU.urow {w : World} {p : Option Addr} {us : List Us} (h : XU w p us) : URow w (.slice p us.length us.length) us := by
  rcases h with ⟨g, F, rfl, h, hF⟩ | ⟨rfl, rfl⟩
  · exact h.urow hF _
  · exact urow_nil w
theorem XU.to {w w' : World} {p : Option Addr} {us : List Us} (h : XU w p us) (b : Below w.heap.size w w') : XU w' p us := by
  rcases h with ⟨g, F, rfl, h, hF⟩ | ⟨rfl, rfl⟩
  · exact Or.inl ⟨g, F, rfl, h.keep (b.block _ h.lt), hF⟩
  · exact Or.inr ⟨rfl, rfl⟩
theorem tdecP_any (A : Nat → Addr) (B : Nat) (l : List UInt8) (w : World) (hS : Sents A B w) (hT : Tab w) (hTB : 23 < B) (hl : l.length ≤ 9223372036854775807) :
    Calls Tryz.prog 14 #[.string (S l)] w fun e w' => ∃ p, e = .returned (.tuple #[prfV (dP l) (.slice p (dP l).ups.length (dP l).ups.length), .int .i64 (dPX l)]) ∧ XU w' p (dP l).ups ∧ (∀ g, p = some ⟨g, 0, none⟩ → w.heap.size ≤ g ∧ g < w'.heap.size) ∧ Below w.heap.size w w' := by
  unfold dP dPX
  cases h : decP l with
  | some m =>
    refine (tdecP_ok A l m w h hl).mono ?_
    rintro e w' ⟨g, F, rfl, hg, hr, hF, hb⟩
    exact ⟨some ⟨g, 0, none⟩, rfl, Or.inl ⟨g, F, rfl, hr, hF⟩, fun g' hg' => by simp at hg'; subst hg'; exact ⟨hg, hr.lt⟩, hb⟩
  | none =>
    refine (tdecP_bad A B l w hS hT hTB h hl).mono ?_
    rintro e w' ⟨rfl, hb⟩
    exact ⟨none, rfl, Or.inr ⟨rfl, rfl⟩, fun g hg => (by cases hg), hb⟩
theorem rdecP_all (l : List UInt8) (w : World) (hl : l.length ≤ 1048576) :
    Calls Tryz.prog 15 #[.string (S l)] w fun e w' => ∃ u, e = .returned (.tuple #[prfV (dP l) u, .int .i64 (dPX l)]) ∧ OwnU w.heap.size w' u (dP l).ups ∧ Below w.heap.size w w' := by
  refine (rdecP_any l w hl).mono ?_
  rintro e w' ⟨m, u, x, rfl, hO, hc, hb⟩
  rcases hc with ⟨h, rfl⟩ | ⟨h, rfl, rfl⟩
  · have e1 : dP l = m := by unfold dP; rw [h]; rfl
    have e2 : dPX l = 0 := by unfold dPX; rw [h]; rfl
    rw [e1, e2]; exact ⟨u, rfl, hO, hb⟩
  · have e1 : dP l = zP := by unfold dP; rw [h]; rfl
    have e2 : dPX l = 4 := by unfold dPX; rw [h]; rfl
    rw [e1, e2]; exact ⟨u, rfl, hO, hb⟩
theorem dP_len (l : List UInt8) : (dP l).ups.length ≤ 37 := by
  unfold dP
  cases h : decP l with
  | none => simp [zP]
  | some m =>
    have he := decP_sound m l h
    unfold encP at he
    cases hn : encN m.bottom with
    | none => rw [hn] at he; cases he
    | some b =>
      rw [hn] at he
      simp only at he
      by_cases hk : okUs m.ups = true
      · exact ((okUs_iff m.ups).1 hk).1
      · rw [if_neg hk] at he; cases he
end Go.Proofs.YtddcbeeldjjmeaaGreatDoor.Tw
