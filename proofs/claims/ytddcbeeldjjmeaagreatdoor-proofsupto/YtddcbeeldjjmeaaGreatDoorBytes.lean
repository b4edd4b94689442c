/- A row of bytes that the call itself has made. -/
import Derived.Test.YtddcbeeldjjmeaaGreatDoorBase
import Derived.Lib.BufferWrite
namespace Go.Proofs.YtddcbeeldjjmeaaGreatDoor.Tw
open Go.RowKit
set_option linter.unusedVariables false
set_option linter.unusedSimpArgs false

def cellsB (l : List UInt8) : List Value := l.map fun c => Value.int .u8 c.toNat
/-- Block g is a row of the bytes l. -/
def BRow (w : World) (g : Nat) (l : List UInt8) : Prop := w.heap[g]? = some (.cells (cellsB l).toArray 5 (0, 0))
theorem BRow.lt {w : World} {g : Nat} {l : List UInt8} (h : BRow w g l) : g < w.heap.size := by
  by_cases hb : g < w.heap.size
  · exact hb
  · have : w.heap[g]? = none := by simp; omega
    unfold BRow at h; rw [this] at h; cases h
theorem BRow.cell {w : World} {g : Nat} {l : List UInt8} (h : BRow w g l) (k : Nat) (hk : k < l.length) : w.cell? ⟨g, k, none⟩ = some (.int .u8 (l[k]'hk).toNat) := by
  unfold BRow at h
  simp [World.cell?, h, cellsB, hk]
theorem BRow.mark {w : World} {g : Nat} {l : List UInt8} (h : BRow w g l) (k : Nat) : w.frozen? ⟨g, k, none⟩ = false := by
  unfold BRow at h
  simp [World.frozen?, h]
theorem BRow.keep {w w' : World} {g : Nat} {l : List UInt8} (h : BRow w g l) (e : w'.heap[g]? = w.heap[g]?) : BRow w' g l := by
  unfold BRow at h ⊢; rw [e]; exact h
theorem BRow.set {w : World} {g : Nat} {l : List UInt8} (h : BRow w g l) (k : Nat) (c : UInt8) (x : Int) (e : x = c.toNat) : BRow (w.setCell ⟨g, k, none⟩ (.int .u8 x)) g (l.set k c) := by
  unfold BRow at h ⊢
  subst e
  have hg := BRow.lt h
  simp [World.setCell, Array.getElem?_modify, h, cellsB, List.map_set]
theorem cellsB_rep (n : Nat) : madeCells (Value.int .u8 0).cells n = (cellsB (List.replicate n 0)).toArray := by
  apply Array.ext'
  apply List.ext_getElem
  · simp [madeCells, cellsB, Value.cells]
  · intro i h1 h2
    simp [madeCells, cellsB, Value.cells, Nat.mod_one]
theorem BRow.new (w : World) (n : Nat) : BRow (w.alloc (.cells (madeCells (Value.int .u8 0).cells n) 5)) w.heap.size (List.replicate n 0) := by
  unfold BRow
  rw [cellsB_rep]
  exact heap_alloc_new w _
theorem Adv.setNew {a : Addr} {l : List UInt8} {w wr : World} (h : Adv a l w wr) (p : Addr) (v : Value) (hp : w.heap.size ≤ p.block) (hn : p.block ≠ a.block) : Adv a l w (wr.setCell p v) :=
  ⟨h.os, h.tape, h.output, by simpa [World.setCell] using h.size, fun k hk hne => by rw [Below.heap_setCell _ _ _ _ (by omega)]; exact h.block k hk hne,
    by rw [World.cell?_of_block (w := wr) (Below.heap_setCell _ _ _ _ (by omega))]; exact h.rest, by rw [World.frozen?_setCell]; exact h.mark⟩
theorem Adv.alloc {a : Addr} {l : List UInt8} {w wr : World} (h : Adv a l w wr) (o : Obj) (ha : a.block < wr.heap.size) : Adv a l w (wr.alloc o) :=
  h.then ((Below.refl _ _).alloc (Nat.le_refl _) o) ha
/-- The text that a piece of the row is turned into. -/
theorem BRow.text {w : World} {g : Nat} {l : List UInt8} (h : BRow w g l) (o n cap : Nat) (hn : o + n ≤ l.length) (m : Nat) (hm : m = n) :
    (Go.convert 100 9 (.slice (some ⟨g, o, none⟩) m cap)).run Tryz.prog w = .ok (.string (S ((l.drop o).take n))) w := by
  subst hm
  have hl : ((l.drop o).take m).length = m := by rw [List.length_take, List.length_drop]; omega
  have hr := run_convert_bytes_back (P := Tryz.prog) w 100 9 5 ⟨g, o, none⟩ cap ((l.drop o).take m) Tryz.underlying100 Tryz.underlying5 Tryz.underlying9 (fun j hj => by
    have hk : o + j < l.length := by omega
    have hc := h.cell (o + j) hk
    have e : (⟨g, o, none⟩ : Addr).add j = ⟨g, o + j, none⟩ := by simp [Addr.add]
    rw [e, hc]
    simp)
  rw [hl] at hr
  exact hr
end Go.Proofs.YtddcbeeldjjmeaaGreatDoor.Tw
