/- The marks of lists, looked at again. -/
import Derived.Test.YtddcbeeldjjmeaaDoorBooks
import Derived.Test.YtddcbeeldjjmeaaDoorRefO
import Derived.BigQuiet
namespace Go.Proofs.YtddcbeeldjjmeaaDoor.Tw
open Go.RowKit Go.Proofs.YtddcbeeldjjmeaaDoor.Pu
set_option linter.unusedVariables false
set_option linter.unusedSimpArgs false

set_option maxRecDepth 20000 in
set_option maxHeartbeats 4000000 in
theorem mark_one (w : World) :
    Calls Tryd.prog 42 #[.int .i64 1] w fun e w' => ∃ s, e = .returned (.string s) ∧ Below w.heap.size w w' := by
  have hcv : (Go.convert 60 9 (.slice (some ⟨w.heap.size, 0, none⟩) 1 1)).run Tryd.prog (w.alloc (.cells #[.int .u8 49] 5)) = .ok (.string (S [49])) (w.alloc (.cells #[.int .u8 49] 5)) :=
    Own.run (base := 0) (l := [49]) (v := .slice (some ⟨w.heap.size, 0, none⟩) 1 1) ⟨by simp [cellsB], Or.inr ⟨w.heap.size, 1, _, rfl, Nat.zero_le _, heap_alloc_new w _, Nat.le_refl _, by decide, by simp, by simp [cellsB]⟩⟩ (by simp)
  have hct := cat_run { data := #[109, 97, 114, 107] } (S [49]) (by decide) (by decide)
  have hb0 := (Below.refl w.heap.size w).alloc (Nat.le_refl _) (.cells #[.int .u8 49] 5)
  go_enter Tryd.func42, Tryd.ntmps42
  go_wp2_with fail
  go_loopw [0, 3] (fun n s wr => (n = .int .i64 1 ∧ s = .string { data := #[109, 97, 114, 107] } ∧ wr = w) ∨ (n = .int .i64 0 ∧ (∃ t, s = .string t) ∧ Below w.heap.size w wr)) (fun n _ _ => (intOf n).toNat)
  case atStart => exact Or.inl ⟨rfl, rfl, rfl⟩
  case round =>
    rcases hrel with ⟨rfl, rfl, rfl⟩ | ⟨rfl, ⟨t, rfl⟩, hb⟩
    · go_wp2_with fail
      go_roundw
      case rel => exact Or.inr ⟨rfl, ⟨_, rfl⟩, hb0⟩
      case measure => simp [intOf]
    · go_wp2_with fail
      go_ret
      exact ⟨_, rfl, hb⟩

set_option maxRecDepth 20000 in
set_option maxHeartbeats 4000000 in
theorem full_any (l : Value) (N : Nat) (hN : N ≤ 300000) (w : World) (hf : Full w (-1001) N l) :
    Calls Tryd.prog 30 #[.agg #[.int .i64 1, .slice none 0 0, l, .slice none 0 0, .slice none 0 0]] w fun e w' => e = .returned (.bool true) ∧ Below w.heap.size w w' := by
  have h5 := C5.new w (.int .i64 1) (.slice none 0 0) l (.slice none 0 0) (.slice none 0 0) 68
  have hk1 := mark_one
  have hb0 := (Below.refl w.heap.size w).alloc (Nat.le_refl _) (.cells #[.int .i64 1, .slice none 0 0, l, .slice none 0 0, .slice none 0 0] 68)
  obtain ⟨p, n, cap, rfl, hn, hc⟩ := hf
  go_enter Tryd.func30, Tryd.ntmps30
  have h5' := h5
  obtain ⟨c0, c1, c2, c3, c4⟩ := h5'
  go_wp2_with (go_at_call 42; refine (hk1 _).mono ?_; rintro e w2 ⟨s, rfl, hb2⟩)
  obtain ⟨d0, d1, d2, d3, d4⟩ := h5.below hb2 (by simp)
  have hB := hb0.trans (hb2.mono (show w.heap.size ≤ (w.alloc _).heap.size by simp))
  have hc' : n = 0 ∨ ∃ (g : Nat) (cs : Array Value) (fz : Nat × Nat), p = some ⟨g, 0, none⟩ ∧ w.heap[g]? = some (Obj.cells cs 3 fz) ∧ g < w.heap.size ∧ ∀ j, j < n → cs[j]? = some (.int .i64 (-1001)) := by
    rcases hc with h | ⟨g, cs, fz, h1, h2, h3⟩
    · exact Or.inl h
    · exact Or.inr ⟨g, cs, fz, h1, h2, lt_of_cells h2, h3⟩
  clear hb2 hb0 h5 hk1 c0 c1 c2 c3 c4 hc
  generalize hb9 : w.heap.size = b at *
  go_loopw [4] (fun i wr => i = .int .i64 0 ∧ wr = w2) (fun _ _ => 0)
  case atStart => exact ⟨rfl, rfl⟩
  case round =>
    obtain ⟨rfl, rfl⟩ := hrel
    go_wp2_with fail
    go_loopw [5] (fun i wr => ∃ j : Nat, j ≤ n ∧ i = .int .i64 j ∧ C5 b (.int .i64 1) (.slice none 0 0) (.slice p n cap) (.slice none 0 0) (.slice none 0 0) wr ∧ Below b w wr) (fun i _ => (n - intOf i).toNat)
    case atStart => exact ⟨0, by omega, rfl, ⟨d0, d1, d2, d3, d4⟩, hB⟩
    case round =>
      obtain ⟨j, hj, rfl, h5, hBr⟩ := hrel
      have h5' := h5
      obtain ⟨d0, d1, d2, d3, d4⟩ := h5'
      by_cases hjn : j < n
      · obtain ⟨g, cs, fz, rfl, hg, hgl, hcs⟩ := hc'.resolve_left (by omega)
        have hcell : wr.cell? ⟨g, j, none⟩ = some (.int .i64 (-1001)) := by
          rw [hBr.cell (p := ⟨g, j, none⟩) hgl]; unfold World.cell?; rw [hg]; simp [hcs j hjn]
        go_wp2_with fail
        go_quiet (fail)
        go_wp2_with fail
        go_roundw
        case rel => exact ⟨j + 1, by omega, by go_num, h5, ⟨hBr.os, hBr.tape, hBr.output, hBr.size, hBr.block⟩⟩
        case measure => simp [intOf]; omega
      · obtain rfl : j = n := by omega
        go_wp2_with fail
        go_loopw [6] (fun i w7 => i = .int .i64 0 ∧ w7 = wr) (fun _ _ => 0)
        case atStart => exact ⟨rfl, rfl⟩
        case round =>
          obtain ⟨rfl, rfl⟩ := hrel
          go_wp2_with fail
          go_loopw [7] (fun i w8 => i = .int .i64 0 ∧ w8 = wr) (fun _ _ => 0)
          case atStart => exact ⟨rfl, rfl⟩
          case round =>
            obtain ⟨rfl, rfl⟩ := hrel
            go_wp2_with fail
            go_ret
            exact ⟨rfl, by rw [hb9]; exact hBr⟩
end Go.Proofs.YtddcbeeldjjmeaaDoor.Tw
