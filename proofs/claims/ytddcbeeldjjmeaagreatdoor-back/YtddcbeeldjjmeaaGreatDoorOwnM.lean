/- Rows of ints of one's own; a block that holds a manifest. -/
import Derived.Test.YtddcbeeldjjmeaaGreatDoorEncK
import Derived.Test.YtddcbeeldjjmeaaGreatDoorDecM3
namespace Go.Proofs.YtddcbeeldjjmeaaGreatDoor.Tw
open Go.RowKit Go.Proofs.YtddcbeeldjjmeaaGreatDoor.Pu
set_option linter.unusedVariables false
set_option linter.unusedSimpArgs false

/-- A row of ints of one's own. -/
def OwnI (base : Nat) (w : World) (v : Value) (l : List Int) : Prop := w.ownsRow base 3 1 v l.length (l.map fun n => Value.int .i64 n)
theorem OwnI.nil (base : Nat) (w : World) : OwnI base w (.slice none 0 0) [] := ⟨by simp, Or.inl ⟨rfl, rfl⟩⟩
theorem OwnI.block {base : Nat} {w : World} {v : Value} {l : List Int} (h : OwnI base w v l) : ∀ k, v.ownBlock = some k → base ≤ k := by
  intro k hk
  obtain ⟨_, ⟨rfl, _⟩ | ⟨g, cap, cur, rfl, hg, _⟩⟩ := h
  · simp [Value.ownBlock] at hk
  · simp [Value.ownBlock] at hk; omega
theorem OwnI.irow {base : Nat} {w : World} {v : Value} {l : List Int} (h : OwnI base w v l) : IRow w v l := by
  obtain ⟨_, ⟨rfl, h0⟩ | ⟨g, cap, cur, rfl, hg, hb, hn, hcap, hcs, htk⟩⟩ := h
  · obtain rfl := List.length_eq_zero_iff.1 h0
    exact ⟨none, 0, rfl, fun i hi => absurd hi (Nat.not_lt_zero i)⟩
  · refine ⟨some ⟨g, 0, none⟩, cap, rfl, fun i hi => ⟨⟨g, 0, none⟩, rfl, ?_⟩⟩
    have ea : (⟨g, 0, none⟩ : Addr).add i = ⟨g, i, none⟩ := by cases i <;> simp [Addr.add]
    rw [ea]
    have hx : (l.map fun n => Value.int .i64 n)[i]? = some (.int .i64 l[i]) := by simp [hi]
    rw [← htk, List.getElem?_take, if_pos (by omega), Array.getElem?_toList] at hx
    simp [World.cell?, hb, hx]
theorem OwnI.keep {base : Nat} {w w' : World} {v : Value} {l : List Int} (h : OwnI base w v l) (k : ∀ j, base ≤ j → j < w.heap.size → w'.heap[j]? = w.heap[j]?) : OwnI base w' v l := by
  obtain ⟨h1, ⟨rfl, h2⟩ | ⟨g, cap, cur, rfl, hg, hb, h3⟩⟩ := h
  · exact ⟨h1, Or.inl ⟨rfl, h2⟩⟩
  · refine ⟨h1, Or.inr ⟨g, cap, cur, rfl, hg, ?_, h3⟩⟩
    have hlt : g < w.heap.size := by
      by_cases hb' : g < w.heap.size
      · exact hb'
      · have : w.heap[g]? = none := by simp; omega
        rw [this] at hb; cases hb
    rw [k g hg hlt]; exact hb

/-- A block that holds a manifest. -/
def MBlk (w : World) (g : Nat) (a b c d : Int) (v : Value) : Prop := w.heap[g]? = some (.cells #[.int .i64 a, .int .i64 b, .int .i64 c, .int .i64 d, v] 49 (0, 0))
theorem MBlk.cells {w : World} {g : Nat} {a b c d : Int} {v : Value} (h : MBlk w g a b c d v) : w.cell? ⟨g, 0, none⟩ = some (.int .i64 a) ∧ w.cell? ⟨g, 1, none⟩ = some (.int .i64 b) ∧ w.cell? ⟨g, 2, none⟩ = some (.int .i64 c) ∧ w.cell? ⟨g, 3, none⟩ = some (.int .i64 d) ∧ w.cell? ⟨g, 4, none⟩ = some v := by
  unfold MBlk at h
  refine ⟨?_, ?_, ?_, ?_, ?_⟩ <;> simp [World.cell?, h]
theorem MBlk.mark {w : World} {g : Nat} {a b c d : Int} {v : Value} (h : MBlk w g a b c d v) (o : Nat) : w.frozen? ⟨g, o, none⟩ = false := by
  unfold MBlk at h
  simp [World.frozen?, h]

theorem MBlk.set {w : World} {g : Nat} {a b c d : Int} {v : Value} (h : MBlk w g a b c d v) (u : Value) : MBlk (w.setCell ⟨g, 4, none⟩ u) g a b c d u := by
  unfold MBlk at h ⊢
  simp [World.setCell, Array.getElem?_modify, h]
theorem MBlk.keep {w w' : World} {g : Nat} {a b c d : Int} {v : Value} (h : MBlk w g a b c d v) (e : w'.heap[g]? = w.heap[g]?) : MBlk w' g a b c d v := by
  unfold MBlk at h ⊢; rw [e]; exact h
theorem MBlk.lt {w : World} {g : Nat} {a b c d : Int} {v : Value} (h : MBlk w g a b c d v) : g < w.heap.size := lt_of_cells h

end Go.Proofs.YtddcbeeldjjmeaaGreatDoor.Tw
