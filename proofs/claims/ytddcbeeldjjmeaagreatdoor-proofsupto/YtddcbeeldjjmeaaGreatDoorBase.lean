/- What a reader's step leaves of the world; the sentinels; errors as values: small facts, no walk. -/
import Derived.Test.YtddcbeeldjjmeaaGreatDoorProg
import Derived.Handy
import Derived.BigQuiet
import Derived.Stop.Asserts
import Derived.LaidEql
namespace Go.Proofs.YtddcbeeldjjmeaaGreatDoor.Tw
open Go.RowKit

/-- A list of bytes as a text. -/
def S (l : List UInt8) : ByteArray := ⟨l.toArray⟩
theorem S_size (l : List UInt8) : (S l).size = l.length := by simp [S, ByteArray.size]
theorem S_list (l : List UInt8) : (S l).data.toList = l := by simp [S]
theorem S_of (s : ByteArray) : S s.data.toList = s := by cases s; simp [S]

/-- A step of a reader at a: its rest is now l'; no other old block has turned. -/
structure Adv (a : Addr) (l' : List UInt8) (w w' : World) : Prop where
  os : w'.os = w.os
  tape : w'.tape = w.tape
  output : w'.output = w.output
  size : w.heap.size ≤ w'.heap.size
  block : ∀ k, k < w.heap.size → k ≠ a.block → w'.heap[k]? = w.heap[k]?
  rest : w'.cell? a = some (.string (S l'))
  mark : w'.frozen? a = false

theorem Adv.below {a : Addr} {l' : List UInt8} {w w' : World} (h : Adv a l' w w') {B : Nat} (h1 : B ≤ a.block) (h2 : B ≤ w.heap.size) : Below B w w' :=
  ⟨h.os, h.tape, h.output, h.size, fun k hk => h.block k (by omega) (by omega)⟩
theorem Adv.cell {a : Addr} {l' : List UInt8} {w w' : World} (h : Adv a l' w w') {p : Addr} (hp : p.block < w.heap.size) (hn : p.block ≠ a.block) : w'.cell? p = w.cell? p :=
  World.cell?_of_block (w := w) (h.block p.block hp hn)
theorem Adv.frozen {a : Addr} {l' : List UInt8} {w w' : World} (h : Adv a l' w w') {p : Addr} (hp : p.block < w.heap.size) (hn : p.block ≠ a.block) : w'.frozen? p = w.frozen? p :=
  World.frozen?_of_block (w := w) (h.block p.block hp hn)
theorem Adv.trans {a : Addr} {l1 l2 : List UInt8} {w0 w1 w2 : World} (h : Adv a l1 w0 w1) (k : Adv a l2 w1 w2) : Adv a l2 w0 w2 :=
  ⟨k.os.trans h.os, k.tape.trans h.tape, k.output.trans h.output, Nat.le_trans h.size k.size, fun i hi hn => (k.block i (Nat.lt_of_lt_of_le hi h.size) hn).trans (h.block i hi hn), k.rest, k.mark⟩
theorem Adv.refl {a : Addr} {l : List UInt8} {w : World} (hc : w.cell? a = some (.string (S l))) (hf : w.frozen? a = false) : Adv a l w w :=
  ⟨rfl, rfl, rfl, Nat.le_refl _, fun _ _ _ => rfl, hc, hf⟩
theorem Adv.drewN {a : Addr} {l : List UInt8} {w w' : World} (h : Adv a l w w') (n : Nat) : Adv a l w (w'.drewN n) := ⟨h.os, h.tape, h.output, h.size, h.block, h.rest, h.mark⟩
theorem Adv.drew {a : Addr} {l : List UInt8} {w w' : World} (h : Adv a l w w') : Adv a l w w'.drew := ⟨h.os, h.tape, h.output, h.size, h.block, h.rest, h.mark⟩
/-- Behind a step, whatever turns nothing below the end of the heap. -/
theorem Adv.then {a : Addr} {l : List UInt8} {w0 w1 w2 : World} (h : Adv a l w0 w1) (k : Below w1.heap.size w1 w2) (ha : a.block < w1.heap.size) : Adv a l w0 w2 :=
  ⟨k.os.trans h.os, k.tape.trans h.tape, k.output.trans h.output, Nat.le_trans h.size k.size, fun i hi hn => (k.block i (Nat.lt_of_lt_of_le hi h.size)).trans (h.block i hi hn), by rw [k.cell ha]; exact h.rest, by rw [k.frozen ha]; exact h.mark⟩
/-- A store into the reader's own cell. -/
theorem Adv.store {a : Addr} {l l' : List UInt8} {w : World} (hc : w.cell? a = some (.string (S l))) (hf : w.frozen? a = false) : Adv a l' w (w.setCell a (.string (S l'))) := by
  refine ⟨rfl, rfl, rfl, by simp [World.setCell], fun k _ hn => Below.heap_setCell _ _ _ _ hn, ?_, ?_⟩
  · exact World.cell?_setCell_same _ _ _ hc
  · rw [World.frozen?_setCell]; exact hf
theorem cell_lt {w : World} {a : Addr} {v : Value} (h : w.cell? a = some v) : a.block < w.heap.size := by
  by_cases hb : a.block < w.heap.size
  · exact hb
  · have : w.heap[a.block]? = none := by simp; omega
    simp [World.cell?, this] at h

theorem bcell {W w1 : World} (hb : Below W.heap.size W w1) : (∀ b o, b < W.heap.size → w1.cell? ⟨b, o, none⟩ = W.cell? ⟨b, o, none⟩) ∧ (∀ b o, b < W.heap.size → w1.frozen? ⟨b, o, none⟩ = W.frozen? ⟨b, o, none⟩) :=
  ⟨fun b o h => hb.cell (p := ⟨b, o, none⟩) h, fun b o h => hb.frozen (p := ⟨b, o, none⟩) h⟩
theorem below_set {B : Nat} {a w : World} (h : Below B a w) (b o : Nat) (v : Value) (hb : B ≤ b) : Below B a (w.setCell ⟨b, o, none⟩ v) := h.setCell (p := ⟨b, o, none⟩) hb v
theorem below_drewN {B : Nat} {a w : World} (h : Below B a w) (n : Nat) : Below B a (w.drewN n) := ⟨h.os, h.tape, h.output, h.size, h.block⟩

/-- The package's errors, by their variables' numbers: the fourteen ways in which bytes are wrong, and 'it has no bytes'. -/
def ways : List Nat := [1, 2, 3, 4, 5, 6, 7, 8, 9, 10, 11, 12, 13, 14]
def nob : Nat := 0
def sents : List Nat := nob :: ways
/-- A bare sentinel as a value. -/
def ptrE (a : Addr) : Value := .iface 423 (.pointer (some a))
/-- Where the sentinels lie: all below block B. -/
structure Sents (A : Nat → Addr) (B : Nat) (w : World) : Prop where
  var : ∀ g, g ∈ sents → w.cell? ⟨g, 0, none⟩ = some (ptrE (A g))
  ne : ∀ g h, g ∈ sents → h ∈ sents → g ≠ h → A g ≠ A h
  heap : ∀ g, g ∈ sents → ∃ c t, w.heap[(A g).block]? = some (.cells c t (0, 0))
  lowg : ∀ g, g ∈ sents → g < B
  low : ∀ g, g ∈ sents → (A g).block < B
  size : B ≤ w.heap.size
theorem Sents.to {A : Nat → Addr} {B : Nat} {w w' : World} (h : Sents A B w) (k : Below B w w') : Sents A B w' :=
  ⟨fun g hg => by rw [k.cell (p := ⟨g, 0, none⟩) (h.lowg g hg)]; exact h.var g hg, h.ne, fun g hg => by rw [k.block _ (h.low g hg)]; exact h.heap g hg, h.lowg, h.low, Nat.le_trans h.size k.size⟩

/-- An error: sentinel g, wrapped in the places ps, the outermost first. -/
def errv (A : Nat → Addr) (g : Nat) : List ByteArray → Value
  | [] => ptrE (A g)
  | p :: ps => .iface 227 (.agg #[.string p, errv A g ps])
/-- A way in which bytes are wrong. -/
def Bad (A : Nat → Addr) (v : Value) : Prop := ∃ g ps, g ∈ ways ∧ v = errv A g ps
/-- It has no bytes. -/
def NoB (A : Nat → Addr) (v : Value) : Prop := ∃ ps, v = errv A nob ps
theorem Bad.wrap {A : Nat → Addr} {v : Value} (h : Bad A v) (p : ByteArray) : Bad A (.iface 227 (.agg #[.string p, v])) := by
  obtain ⟨g, ps, hg, rfl⟩ := h
  exact ⟨g, p :: ps, hg, rfl⟩
theorem NoB.wrap {A : Nat → Addr} {v : Value} (h : NoB A v) (p : ByteArray) : NoB A (.iface 227 (.agg #[.string p, v])) := by
  obtain ⟨ps, rfl⟩ := h
  exact ⟨p :: ps, rfl⟩
theorem Bad.base {A : Nat → Addr} (g : Nat) (h : g ∈ ways) : Bad A (ptrE (A g)) := ⟨g, [], h, rfl⟩
theorem NoB.base {A : Nat → Addr} : NoB A (ptrE (A nob)) := ⟨[], rfl⟩
/-- No error is nil. -/
theorem errv_form (A : Nat → Addr) (g : Nat) (ps : List ByteArray) : ∃ t x, errv A g ps = .iface t x := by
  cases ps with
  | nil => exact ⟨_, _, rfl⟩
  | cons p ps => exact ⟨_, _, rfl⟩
end Go.Proofs.YtddcbeeldjjmeaaGreatDoor.Tw
