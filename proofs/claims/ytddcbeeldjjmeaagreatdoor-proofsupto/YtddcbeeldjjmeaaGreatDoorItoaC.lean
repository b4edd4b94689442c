/- strconv.Itoa, as far as an error's place asks: some short text; nothing that lay before is turned. -/
import Derived.Test.YtddcbeeldjjmeaaGreatDoorShelfI
import Derived.Test.YtddcbeeldjjmeaaGreatDoorBase
import Derived.Shelf.Strconv.Itoa3
import Derived.Lib.ItoaLen
import Derived.Lib.AppendIntMem
namespace Go.Proofs.YtddcbeeldjjmeaaGreatDoor.Tw
open Go.RowKit Go.Shelf
set_option linter.unusedVariables false

/-- The library's table of powers lies as its text lays it. -/
def Tab (w : World) : Prop := Lib.TabIs Tryz.prog w "internal/strconv.uint64pow10" .u64 Lib.pow10Tab
theorem tabG : Tryz.prog.globalNamed "internal/strconv.uint64pow10" = some 23 := by kernel_rfl
theorem Tab.lt {w : World} (h : Tab w) : 23 < w.heap.size := by
  unfold Tab Lib.TabIs World.var? at h
  rw [tabG] at h
  simp only [Option.bind_some] at h
  by_cases hl : 23 < w.heap.size
  · exact hl
  · rw [Array.getElem?_eq_none (by omega)] at h; cases h
theorem Tab.to {B : Nat} {w w' : World} (h : Tab w) (k : Below B w w') (hB : 23 < B) : Tab w' := by
  unfold Tab Lib.TabIs World.var? at h ⊢
  rw [tabG] at h ⊢
  simp only [Option.bind_some] at h ⊢
  rw [k.block _ hB]
  exact h

theorem itoa_any (n : Int) (w : World) (hT : Tab w) (h0 : -9223372036854775808 ≤ n) (h1 : n ≤ 9223372036854775807) :
    Calls Tryz.prog 152 #[.int .i64 n] w fun e w' => ∃ s, e = .returned (.string s) ∧ s.size ≤ 21 ∧ Below w.heap.size w w' := by
  have h := Any.strconv_Itoa Tryz.lays171 n h0 h1 w hT
  refine Calls.mono h ?_
  rintro e w' ⟨rfl, k, os, rfl⟩
  exact ⟨_, rfl, by have := Lib.itoa_length_le n h0 h1; simpa [ByteArray.size] using this, Lib.below_grow _ w (Nat.le_refl _) k os⟩
/-- Two short texts, one behind the other. -/
theorem catI (a b : ByteArray) (h1 : a.size ≤ 1000000) (h2 : b.size ≤ 1000000) : ∀ w : World, (Op.stringOp .add a b).run Tryz.prog w = .ok (.string (a ++ b)) w := fun w => run_string_add w a b (by omega) (by omega)
theorem Tab.drew {w : World} (h : Tab w) : Tab w.drew := h
theorem Tab.drewN {w : World} (h : Tab w) (n : Nat) : Tab (w.drewN n) := h
end Go.Proofs.YtddcbeeldjjmeaaGreatDoor.Tw
