/- The marks of lists of steps, looked at again. -/
import Derived.Test.YtddcbeeldjjmeaaGreatDoorBooksV
import Derived.Test.YtddcbeeldjjmeaaGreatDoorRefO
import Derived.Deep.QuietTactic
import Derived.BigQuiet
namespace Go.Proofs.YtddcbeeldjjmeaaGreatDoor.Tw
open Go.RowKit Go.Proofs.YtddcbeeldjjmeaaGreatDoor.Pu
set_option linter.unusedVariables false
set_option linter.unusedSimpArgs false

/-- Five cells of a block. -/
def D5 (b : Nat) (c0 c1 c2 c3 c4 : Value) (w : World) : Prop :=
  w.cell? ⟨b, 0, none⟩ = some c0 ∧ w.cell? ⟨b, 1, none⟩ = some c1 ∧ w.cell? ⟨b, 2, none⟩ = some c2 ∧ w.cell? ⟨b, 3, none⟩ = some c3 ∧ w.cell? ⟨b, 4, none⟩ = some c4
theorem D5.below {B : Nat} {w0 w1 : World} {b : Nat} {c0 c1 c2 c3 c4 : Value} (h5 : D5 b c0 c1 c2 c3 c4 w0) (h : Below B w0 w1) (hb : b < B) : D5 b c0 c1 c2 c3 c4 w1 := by
  obtain ⟨k0, k1, k2, k3, k4⟩ := h5
  exact ⟨(h.cell hb).trans k0, (h.cell hb).trans k1, (h.cell hb).trans k2, (h.cell hb).trans k3, (h.cell hb).trans k4⟩
theorem D5.new (w : World) (c0 c1 c2 c3 c4 : Value) (t : TypeId) : D5 w.heap.size c0 c1 c2 c3 c4 (w.alloc (.cells #[c0, c1, c2, c3, c4] t)) :=
  ⟨by simp, by simp, by simp, by simp, by simp⟩

set_option maxRecDepth 20000 in
set_option maxHeartbeats 4000000 in
theorem markU_one (w : World) :
    Calls Tryz.prog 104 #[.int .i64 1] w fun e w' => ∃ s, e = .returned (.string s) ∧ Below w.heap.size w w' := by
  have hcv : (Go.convert 100 9 (.slice (some ⟨w.heap.size, 0, none⟩) 1 1)).run Tryz.prog (w.alloc (.cells #[.int .u8 49] 5)) = .ok (.string (S [49])) (w.alloc (.cells #[.int .u8 49] 5)) :=
    Own.run (base := 0) (l := [49]) (v := .slice (some ⟨w.heap.size, 0, none⟩) 1 1) ⟨by simp [cellsB], Or.inr ⟨w.heap.size, 1, _, rfl, Nat.zero_le _, heap_alloc_new w _, Nat.le_refl _, by decide, by simp, by simp [cellsB]⟩⟩ (by simp)
  have hct := cat_run { data := #[109, 97, 114, 107] } (S [49]) (by decide) (by decide)
  have hb0 := (Below.refl w.heap.size w).alloc (Nat.le_refl _) (.cells #[.int .u8 49] 5)
  go_enter Tryz.func104, Tryz.ntmps104
  go_wp2_with fail
  go_loopw [0, 3] (fun n s wr => (n = .int .i64 1 ∧ s = .string { data := #[109, 97, 114, 107] } ∧ wr = w) ∨ (n = .int .i64 0 ∧ (∃ t, s = .string t) ∧ Below w.heap.size w wr)) (fun n _ _ => (intOf n).toNat)
  case atStart => exact Or.inl ⟨rfl, rfl, rfl⟩
  case round =>
    rcases hrel with ⟨rfl, rfl, rfl⟩ | ⟨rfl, ⟨t, rfl⟩, hb⟩
    · go_wp2_with fail
      go_roundw
      case rel => exact Or.inr ⟨rfl, ⟨_, rfl⟩, hb0⟩
      case measure => simp [intOf]
    · go_wp2_with fail
      go_ret
      exact ⟨_, rfl, hb⟩

set_option maxRecDepth 20000 in
set_option maxHeartbeats 4000000 in
theorem fullU_any (l : Value) (N : Nat) (hN : N ≤ 1000) (w : World) (hf : UFull w N l) :
    Calls Tryz.prog 58 #[.agg #[.int .i64 1, l, .slice none 0 0, .slice none 0 0, .slice none 0 0]] w fun e w' => e = .returned (.bool true) ∧ Below w.heap.size w w' := by
  have h5 := D5.new w (.int .i64 1) l (.slice none 0 0) (.slice none 0 0) (.slice none 0 0) 111
  have hk1 := markU_one
  have hb0 := (Below.refl w.heap.size w).alloc (Nat.le_refl _) (.cells #[.int .i64 1, l, .slice none 0 0, .slice none 0 0, .slice none 0 0] 111)
  obtain ⟨p, n, cap, rfl, hn, hc⟩ := hf
  go_enter Tryz.func58, Tryz.ntmps58
  have h5' := h5
  obtain ⟨c0, c1, c2, c3, c4⟩ := h5'
  go_wp2_with (go_at_call 104; refine (hk1 _).mono ?_; rintro e w2 ⟨s, rfl, hb2⟩)
  obtain ⟨d0, d1, d2, d3, d4⟩ := h5.below hb2 (by simp)
  have hB := hb0.trans (hb2.mono (show w.heap.size ≤ (w.alloc _).heap.size by simp))
  have hc' : n = 0 ∨ ∃ (g : Nat) (cs : Array Value) (fz : Nat × Nat), p = some ⟨g, 0, none⟩ ∧ w.heap[g]? = some (Obj.cells cs 28 fz) ∧ g < w.heap.size ∧ ∀ j, j < n * 3 → cs[j]? = some (cellU (fun _ => mU) j) := by
    rcases hc with h | ⟨g, cs, fz, h1, h2, h3⟩
    · exact Or.inl h
    · exact Or.inr ⟨g, cs, fz, h1, h2, lt_of_cells h2, h3⟩
  clear hb2 hb0 h5 hk1 c0 c1 c2 c3 c4 hc
  generalize hb9 : w.heap.size = b at *
  go_loopw [4] (fun i wr => ∃ j : Nat, j ≤ n ∧ i = .int .i64 j ∧ D5 b (.int .i64 1) (.slice p n cap) (.slice none 0 0) (.slice none 0 0) (.slice none 0 0) wr ∧ Below b w wr) (fun i _ => (n - intOf i).toNat)
  case atStart => exact ⟨0, by omega, rfl, ⟨d0, d1, d2, d3, d4⟩, hB⟩
  case round =>
    obtain ⟨j, hj, rfl, h5, hBr⟩ := hrel
    have h5' := h5
    obtain ⟨d0, d1, d2, d3, d4⟩ := h5'
    by_cases hjn : j < n
    · obtain ⟨g, cs, fz, rfl, hg, hgl, hcs⟩ := hc'.resolve_left (by omega)
      have key : ∀ k, k < n * 3 → wr.cell? ⟨g, k, none⟩ = some (cellU (fun _ => mU) k) := fun k hk => by
        rw [hBr.cell (p := ⟨g, k, none⟩) hgl]; unfold World.cell?; rw [hg]; simp [hcs k hk]
      have x0 : wr.cell? ⟨g, j * 3, none⟩ = some (.int .i64 (-1)) := by rw [key (j * 3) (by omega)]; unfold cellU; rw [if_pos (by omega)]; rfl
      have x1 : wr.cell? ⟨g, j * 3 + 1, none⟩ = some (.string ⟨#[]⟩) := by rw [key (j * 3 + 1) (by omega)]; unfold cellU; rw [if_neg (by omega), if_pos (by omega)]; rfl
      have x2 : wr.cell? ⟨g, j * 3 + 2, none⟩ = some (.int .i64 0) := by rw [key (j * 3 + 2) (by omega)]; unfold cellU; rw [if_neg (by omega), if_neg (by omega)]; rfl
      clear key hc'
      go_wp2_with fail
      go_quiet (fail)
      go_wp2_with fail
      go_roundw
      case rel => exact ⟨j + 1, by omega, by go_num, h5, ⟨hBr.os, hBr.tape, hBr.output, hBr.size, hBr.block⟩⟩
      case measure => simp [intOf]; omega
    · obtain rfl : j = n := by omega
      clear hc'
      go_wp2_with fail
      go_loopw [5] (fun i w7 => i = .int .i64 0 ∧ w7 = wr) (fun _ _ => 0)
      case atStart => exact ⟨rfl, rfl⟩
      case round =>
        obtain ⟨rfl, rfl⟩ := hrel
        go_wp2_with fail
        go_loopw [6] (fun i w8 => i = .int .i64 0 ∧ w8 = wr) (fun _ _ => 0)
        case atStart => exact ⟨rfl, rfl⟩
        case round =>
          obtain ⟨rfl, rfl⟩ := hrel
          go_wp2_with fail
          go_loopw [7] (fun i w9 => i = .int .i64 0 ∧ w9 = wr) (fun _ _ => 0)
          case atStart => exact ⟨rfl, rfl⟩
          case round =>
            obtain ⟨rfl, rfl⟩ := hrel
            go_wp2_with fail
            go_ret
            exact ⟨rfl, by rw [hb9]; exact hBr⟩

theorem booksCU_get : ∀ (vs : List Value) (j k : Nat) (hj : j < vs.length), k < 5 → (booksCU vs)[j * 5 + k]? = (bookCU vs[j])[k]?
  | v :: vs, 0, k, hj, hk => by
    have e : booksCU (v :: vs) = bookCU v ++ booksCU vs := by simp [booksCU]
    rw [e, List.getElem?_append_left (by simp [bookCU]; omega)]
    simp
  | v :: vs, j + 1, k, hj, hk => by
    have e : booksCU (v :: vs) = bookCU v ++ booksCU vs := by simp [booksCU]
    rw [e, List.getElem?_append_right (by simp [bookCU]; omega)]
    have e2 : (j + 1) * 5 + k - (bookCU v).length = j * 5 + k := by simp [bookCU]; omega
    rw [e2]
    exact booksCU_get vs j k (by simp at hj; omega) hk

theorem BkU.below {bk B N M : Nat} {W W' : World} {vs : List Value} {u : Value} (h : BkU bk B N W vs u) (k : Below M W W') (hM : M = W.heap.size) : BkU bk B N W' vs u := by
  subst hM
  refine h.to (Nat.le_refl _) (k.block _ (lt_of_cells h.blk)) (fun j hj => ?_) fun g cs fz hg => Or.inl (k.block _ (lt_of_cells hg))
  obtain ⟨_, cur, fz, h2⟩ := ownU_type h.row hj
  exact k.block _ (lt_of_cells h2)

set_option maxRecDepth 20000 in
set_option maxHeartbeats 4000000 in
theorem stillU_any (bk B N : Nat) (hN : N ≤ 1000) (vs : List Value) (u : Value) (w : World) (hb0 : BkU bk B N w vs u) (h0 : 0 < vs.length) (h9 : vs.length ≤ 1000) :
    Calls Tryz.prog 17 #[.pointer (some ⟨bk, 0, none⟩)] w fun e w' => e = .returned (.bool true) ∧ Below w.heap.size w w' := by
  have hrow := hb0.row
  obtain ⟨_, ⟨rfl, hz⟩ | ⟨g, cap, cur, rfl, hg, hbb, hn, hcap, hcs, htk⟩⟩ := hrow
  · omega
  have hgl : g < w.heap.size := lt_of_cells hbb
  have hcell : ∀ j k (hj : j < vs.length), k < 5 → w.cell? ⟨g, j * 5 + k, none⟩ = (bookCU vs[j])[k]? := fun j k hj hk => by
    have h := booksCU_get vs j k hj hk
    rw [← htk, List.getElem?_take, if_pos (by omega), Array.getElem?_toList] at h
    unfold World.cell?; rw [hbb]
    simpa using h
  have hmark : ∀ o, w.frozen? ⟨g, o, none⟩ = false := fun o => by unfold World.frozen?; rw [hbb]; rfl
  have hkf := fun (l : Value) (w : World) (hf : UFull w N l) => fullU_any l N hN w hf
  clear hcs htk hcap hn hg
  go_enter Tryz.func17, Tryz.ntmps17
  go_wp2_with fail
  go_loopw [3] (fun i wr => ∃ j : Nat, j ≤ vs.length ∧ i = .int .i64 j ∧ Below w.heap.size w wr) (fun i _ => (vs.length - intOf i).toNat)
  case atStart => exact ⟨0, by omega, rfl, Below.refl _ w⟩
  case round =>
    obtain ⟨j, hj, rfl, hBr⟩ := hrel
    have hb := hb0.below hBr rfl
    have b1 : wr.cell? ⟨bk, 1, none⟩ = some (.slice (some ⟨g, 0, none⟩) vs.length cap) := by simp [World.cell?, hb.blk]
    by_cases hjn : j < vs.length
    · have k0 : wr.cell? ⟨g, j * 5, none⟩ = some (.int .i64 1) := (hBr.cell (p := ⟨g, j * 5, none⟩) hgl).trans (hcell j 0 hjn (by omega))
      have k1 : wr.cell? ⟨g, j * 5 + 1, none⟩ = some vs[j] := (hBr.cell (p := ⟨g, j * 5 + 1, none⟩) hgl).trans (hcell j 1 hjn (by omega))
      have k2 : wr.cell? ⟨g, j * 5 + 2, none⟩ = some (.slice none 0 0) := (hBr.cell (p := ⟨g, j * 5 + 2, none⟩) hgl).trans (hcell j 2 hjn (by omega))
      have k3 : wr.cell? ⟨g, j * 5 + 3, none⟩ = some (.slice none 0 0) := (hBr.cell (p := ⟨g, j * 5 + 3, none⟩) hgl).trans (hcell j 3 hjn (by omega))
      have k4 : wr.cell? ⟨g, j * 5 + 4, none⟩ = some (.slice none 0 0) := (hBr.cell (p := ⟨g, j * 5 + 4, none⟩) hgl).trans (hcell j 4 hjn (by omega))
      have hfl := hb.full _ (List.getElem_mem hjn)
      go_wp2_with (go_at_call 58; refine (hkf _ _ hfl).mono ?_; rintro e w2 ⟨rfl, hb2⟩)
      refine ⟨⟨j + 1, by omega, by go_num, hBr.trans (hb2.mono hBr.size)⟩, ?_⟩
      simp [intOf]; omega
    · obtain rfl : j = vs.length := by omega
      go_wp2_with fail
      go_ret
      exact ⟨rfl, hBr⟩
end Go.Proofs.YtddcbeeldjjmeaaGreatDoor.Tw
