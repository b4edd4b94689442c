/- A proof among the arguments, opened: its bottom, and its row of steps. -/
import Derived.Test.YtddcbeeldjjmeaaGreatDoorProLaw
import Derived.Test.YtddcbeeldjjmeaaGreatDoorOpen5
import Derived.Test.YtddcbeeldjjmeaaGreatDoorLaidS
import Derived.Deep.Slices
import Derived.Deep.Strs
import Derived.ProofKit
import Derived.OpenShut
namespace Go.Proofs.YtddcbeeldjjmeaaGreatDoor.OpU
open Go Go.ChangeShapes Go.WideShapes Go.ChangeAt Go.RowKit Go.Deep
open Go.Proofs.YtddcbeeldjjmeaaGreatDoor.Pu
set_option linter.unusedVariables false
set_option linter.unusedSimpArgs false

variable {H : Type} {enc : TypeId × Value → H} {w : World} {base : Nat} {spare : Nat → Bool} {held : Bool}

theorem cInt : Tryz.prog.cellsOf 3 = 1 := by kernel_rfl
theorem cStr : Tryz.prog.cellsOf 9 = 1 := by kernel_rfl
theorem cUp : Tryz.prog.cellsOf 28 = 3 := by kernel_rfl
theorem cNode : Tryz.prog.cellsOf 23 = 5 := by kernel_rfl
theorem cUps : Tryz.prog.cellsOf 24 = 1 := by kernel_rfl
theorem cProof : Tryz.prog.cellsOf 26 = 6 := by kernel_rfl

set_option maxRecDepth 20000 in
theorem open_up {n : Nat} {cs : List Value} {y : DataW H × List MemPlace} (h : DataW.trod enc Tryz.prog w base spare held n 28 cs = some y) :
    ∃ (s : Int) (p : ByteArray) (x : Int), cs = [.int .i64 s, .string p, .int .i64 x] ∧ p.size ≤ maxLen := by
  obtain ⟨y0, y1, y2, k, hx, hl, t0, t1, t2⟩ := trod_struct3 Tryz.underlying28 h
  rw [cUp] at hl
  match cs, hl with
  | [v0, v1, v2], _ =>
    simp [cInt, cStr] at t0 t1 t2
    obtain ⟨s, e0, _, _⟩ := DataW.trod_int Tryz.underlying3 t0
    obtain ⟨p, e1, _, hp⟩ := DataW.trod_string Tryz.underlying9 t1
    obtain ⟨x, e2, _, _⟩ := DataW.trod_int Tryz.underlying3 t2
    cases e0; cases e1; cases e2
    exact ⟨s, p, x, rfl, hp⟩

set_option maxRecDepth 20000 in
theorem open_ups {fuel : Nat} {c : Value} {x : DataW H × List MemPlace} (h : DataW.trod enc Tryz.prog w base spare held fuel 24 [c] = some x) :
    ∃ us : List Us, Tw.URow w c us ∧ (∀ u, u ∈ us → u.path.length ≤ maxLen) ∧ ((x.1 = .nil ∧ us = []) ∨ ∃ elems rest, x.1 = .slice elems rest ∧ elems.length = us.length) := by
  rcases open_slice Tryz.underlying24 h with ⟨hcs, hx⟩ | ⟨a, len, cap, m, n, D, Pl, hcs, hb, hl, hm, hmm, hx, hel⟩
  · simp only [List.cons.injEq, and_true] at hcs
    subst hcs
    exact ⟨[], Tw.urow_nil w, by simp, Or.inl ⟨by rw [hx], rfl⟩⟩
  · simp only [List.cons.injEq, and_true] at hcs
    subst hcs
    have hlm : len ≤ m := by rw [hmm]; split <;> omega
    have each : ∀ i, i < len → ∃ u : Us, w.cell? (a.add (i * 3)) = some (.int .i64 u.side) ∧ w.cell? ⟨(a.add (i * 3)).block, (a.add (i * 3)).off + 1, none⟩ = some (.string (Tw.S u.path)) ∧ w.cell? ⟨(a.add (i * 3)).block, (a.add (i * 3)).off + 2, none⟩ = some (.int .i64 u.other) ∧ u.path.length ≤ maxLen := by
      intro i hi
      obtain ⟨cs', h1, h2⟩ := hel i (by omega)
      rw [cUp] at h1
      obtain ⟨s, p, x, rfl, hp⟩ := open_up h2
      obtain ⟨_, hlen, hcell⟩ := World.cells?_some h1
      have e0 := hcell 0 (by simp)
      have e1 := hcell 1 (by simp)
      have e2 := hcell 2 (by simp)
      refine ⟨⟨s, p.data.toList, x⟩, ?_, ?_, ?_, ?_⟩
      · simpa [Addr.add] using e0
      · have e : Tw.S p.data.toList = p := Tw.S_of p
        simp only [e]
        exact e1
      · simpa [Addr.add] using e2
      · have := Sn.len_list p
        show p.data.toList.length ≤ maxLen
        omega
    haveI : Inhabited Us := ⟨⟨0, [], 0⟩⟩
    obtain ⟨f, hf⟩ := choose_lt each
    refine ⟨(List.range len).map f, ⟨some a, cap, by simp, fun i hi => ⟨a, rfl, ?_⟩⟩, fun u hu => ?_, Or.inr ⟨(List.range len).map D, _, by rw [hx], by simp⟩⟩
    · have hi' : i < len := by simpa using hi
      rw [List.getElem_map, List.getElem_range]
      obtain ⟨h0, h1, h2, _⟩ := hf i hi'
      exact ⟨h0, h1, h2⟩
    · obtain ⟨i, hi, rfl⟩ := List.mem_map.1 hu
      exact (hf i (by simpa using hi)).2.2.2
end Go.Proofs.YtddcbeeldjjmeaaGreatDoor.OpU
