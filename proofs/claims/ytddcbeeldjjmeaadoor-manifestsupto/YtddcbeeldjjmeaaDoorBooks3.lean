/- Every list still has its owner's mark. -/
import Derived.Test.YtddcbeeldjjmeaaDoorBooks2
namespace Go.Proofs.YtddcbeeldjjmeaaDoor.Tw
open Go.RowKit Go.Proofs.YtddcbeeldjjmeaaDoor.Pu
set_option linter.unusedVariables false
set_option linter.unusedSimpArgs false

theorem booksC_get : ∀ (vs : List Value) (j k : Nat) (hj : j < vs.length), k < 5 → (booksC vs)[j * 5 + k]? = (bookC vs[j])[k]?
  | v :: vs, 0, k, hj, hk => by
    have e : booksC (v :: vs) = bookC v ++ booksC vs := by simp [booksC]
    rw [e, List.getElem?_append_left (by simp [bookC]; omega)]
    simp
  | v :: vs, j + 1, k, hj, hk => by
    have e : booksC (v :: vs) = bookC v ++ booksC vs := by simp [booksC]
    rw [e, List.getElem?_append_right (by simp [bookC]; omega)]
    have e2 : (j + 1) * 5 + k - (bookC v).length = j * 5 + k := by simp [bookC]; omega
    rw [e2]
    exact booksC_get vs j k (by simp at hj; omega) hk

theorem Bk.below {bk B N M : Nat} {W W' : World} {vs : List Value} {u : Value} (h : Bk bk B N W vs u) (k : Below M W W') (hM : M = W.heap.size) : Bk bk B N W' vs u := by
  subst hM
  refine h.to (Nat.le_refl _) (k.block _ (lt_of_cells h.blk)) (fun j hj => ?_) fun g cs fz hg => Or.inl (k.block _ (lt_of_cells hg))
  obtain ⟨_, cur, fz, h2⟩ := own_type h.row hj
  exact k.block _ (lt_of_cells h2)

set_option maxRecDepth 20000 in
set_option maxHeartbeats 4000000 in
theorem still_any (bk B N : Nat) (hN : N ≤ 300000) (vs : List Value) (u : Value) (w : World) (hb0 : Bk bk B N w vs u) (h0 : 0 < vs.length) (h9 : vs.length ≤ 1000) :
    Calls Tryd.prog 15 #[.pointer (some ⟨bk, 0, none⟩)] w fun e w' => e = .returned (.bool true) ∧ Below w.heap.size w w' := by
  have hrow := hb0.row
  obtain ⟨_, ⟨rfl, hz⟩ | ⟨g, cap, cur, rfl, hg, hbb, hn, hcap, hcs, htk⟩⟩ := hrow
  · omega
  have hgl : g < w.heap.size := lt_of_cells hbb
  have hcell : ∀ j k (hj : j < vs.length), k < 5 → w.cell? ⟨g, j * 5 + k, none⟩ = (bookC vs[j])[k]? := fun j k hj hk => by
    have h := booksC_get vs j k hj hk
    rw [← htk, List.getElem?_take, if_pos (by omega), Array.getElem?_toList] at h
    unfold World.cell?; rw [hbb]
    simpa using h
  have hmark : ∀ o, w.frozen? ⟨g, o, none⟩ = false := fun o => by unfold World.frozen?; rw [hbb]; rfl
  have hkf := fun (l : Value) (w : World) (hf : Full w (-1001) N l) => full_any l N hN w hf
  clear hcs htk hcap hn hg
  go_enter Tryd.func15, Tryd.ntmps15
  go_wp2_with fail
  go_loopw [3] (fun i wr => ∃ j : Nat, j ≤ vs.length ∧ i = .int .i64 j ∧ Below w.heap.size w wr) (fun i _ => (vs.length - intOf i).toNat)
  case atStart => exact ⟨0, by omega, rfl, Below.refl _ w⟩
  case round =>
    obtain ⟨j, hj, rfl, hBr⟩ := hrel
    have hb := hb0.below hBr rfl
    have b1 : wr.cell? ⟨bk, 1, none⟩ = some (.slice (some ⟨g, 0, none⟩) vs.length cap) := by simp [World.cell?, hb.blk]
    by_cases hjn : j < vs.length
    · have k0 : wr.cell? ⟨g, j * 5, none⟩ = some (.int .i64 1) := (hBr.cell (p := ⟨g, j * 5, none⟩) hgl).trans (hcell j 0 hjn (by omega))
      have k1 : wr.cell? ⟨g, j * 5 + 1, none⟩ = some (.slice none 0 0) := (hBr.cell (p := ⟨g, j * 5 + 1, none⟩) hgl).trans (hcell j 1 hjn (by omega))
      have k2 : wr.cell? ⟨g, j * 5 + 2, none⟩ = some vs[j] := (hBr.cell (p := ⟨g, j * 5 + 2, none⟩) hgl).trans (hcell j 2 hjn (by omega))
      have k3 : wr.cell? ⟨g, j * 5 + 3, none⟩ = some (.slice none 0 0) := (hBr.cell (p := ⟨g, j * 5 + 3, none⟩) hgl).trans (hcell j 3 hjn (by omega))
      have k4 : wr.cell? ⟨g, j * 5 + 4, none⟩ = some (.slice none 0 0) := (hBr.cell (p := ⟨g, j * 5 + 4, none⟩) hgl).trans (hcell j 4 hjn (by omega))
      have hfl := hb.full _ (List.getElem_mem hjn)
      go_wp2_with (go_at_call 30; refine (hkf _ _ hfl).mono ?_; rintro e w2 ⟨rfl, hb2⟩)
      refine ⟨⟨j + 1, by omega, by go_num, hBr.trans (hb2.mono hBr.size)⟩, ?_⟩
      simp [intOf]; omega
    · obtain rfl : j = vs.length := by omega
      go_wp2_with fail
      go_ret
      exact ⟨rfl, hBr⟩
end Go.Proofs.YtddcbeeldjjmeaaDoor.Tw
