/- Both readers of manifests, in one form. -/
import Derived.Test.YtddcbeeldjjmeaaDoorDecM5
import Derived.Test.YtddcbeeldjjmeaaDoorRefM4
import Derived.Test.YtddcbeeldjjmeaaDoorRefM5
namespace Go.Proofs.YtddcbeeldjjmeaaDoor.Tw
open Go.RowKit Go.Proofs.YtddcbeeldjjmeaaDoor.Pu
set_option linter.unusedVariables false
set_option linter.unusedSimpArgs false

def zM : Mf := ⟨0, 0, 0, 0, []⟩
/-- What bytes say, or the empty manifest; and the code. -/
def dM (l : List UInt8) : Mf := (decM l).getD zM
def dX (l : List UInt8) : Int := if (decM l).isSome then 0 else 4

theorem tdecM_any (A : Nat → Addr) (B : Nat) (l : List UInt8) (w : World) (hS : Sents A B w) (hT : Tab w) (hTB : 15 < B) (hl : l.length ≤ 9223372036854775807) :
    Calls Tryd.prog 12 #[.string (S l)] w fun e w' => ∃ p, e = .returned (.tuple #[manV (dM l) (.slice p (dM l).digests.length (dM l).digests.length), .int .i64 (dX l)]) ∧ ((∃ g, p = some ⟨g, 0, none⟩ ∧ w.heap.size ≤ g ∧ NRow w' g (dM l).digests) ∨ (p = none ∧ (dM l).digests = [])) ∧ Below w.heap.size w w' := by
  unfold dM dX
  cases h : decM l with
  | some m =>
    refine (tdecM_ok l m w h hl).mono ?_
    rintro e w' ⟨g, rfl, hg, hr, hb⟩
    exact ⟨some ⟨g, 0, none⟩, rfl, Or.inl ⟨g, rfl, hg, hr⟩, hb⟩
  | none =>
    refine (tdecM_bad A B l w hS hT hTB h hl).mono ?_
    rintro e w' ⟨rfl, hb⟩
    exact ⟨none, rfl, Or.inr ⟨rfl, rfl⟩, hb⟩
theorem rdecM_any (l : List UInt8) (w : World) (hl : l.length ≤ 1048576) :
    Calls Tryd.prog 13 #[.string (S l)] w fun e w' => ∃ u, e = .returned (.tuple #[manV (dM l) u, .int .i64 (dX l)]) ∧ OwnI w.heap.size w' u (dM l).digests ∧ Below w.heap.size w w' := by
  refine (rdecM_of rencM_any l w hl).mono ?_
  rintro e w' ⟨m, u, x, rfl, hO, hc, hb⟩
  rcases hc with ⟨h, rfl⟩ | ⟨h, rfl, rfl⟩
  · have e1 : dM l = m := by unfold dM; rw [h]; rfl
    have e2 : dX l = 0 := by unfold dX; rw [h]; rfl
    rw [e1, e2]; exact ⟨u, rfl, hO, hb⟩
  · have e1 : dM l = zM := by unfold dM; rw [h]; rfl
    have e2 : dX l = 4 := by unfold dX; rw [h]; rfl
    rw [e1, e2]; exact ⟨u, rfl, hO, hb⟩
end Go.Proofs.YtddcbeeldjjmeaaDoor.Tw
