/- The document's answer: a node, read: no leaf, no branch; all together. -/
import Derived.Test.YtddcbeeldjjmeaaGreatDoorRefQ
namespace Go.Proofs.YtddcbeeldjjmeaaGreatDoor.Tw
open Go.RowKit Go.Proofs.YtddcbeeldjjmeaaGreatDoor.Pu
set_option linter.unusedVariables false
set_option linter.unusedSimpArgs false

set_option maxHeartbeats 1000000 in
theorem rnode_other (rb : Nat) (l : List UInt8) (k : Nat) (w : World) (hl : l.length ≤ 9223372036854775807) (hk0 : (l.getD 0 0).toNat = k) (h0 : ¬ k = 0) (h1 : ¬ k = 1)
    (hc : w.cell? ⟨rb, 0, none⟩ = some (.string (S l))) (hf : w.frozen? ⟨rb, 0, none⟩ = false) :
    Calls Tryz.prog 54 #[.pointer (some ⟨rb, 0, none⟩)] w fun e w' => e = .returned (nodeV ⟨k, [], [], 0, 0⟩) ∧ Adv ⟨rb, 0, none⟩ (l.drop 1) w w' := by
  have hrb : rb < w.heap.size := cell_lt hc
  have hrn : w.heap.size ≠ rb := by omega
  have hb0 : ∀ o, Adv ⟨rb, 0, none⟩ l w (w.alloc o) := fun o => (Adv.refl hc hf).alloc o hrb
  have hk1 := fun w hc hf => rone_any rb l w hl hc hf
  rw [hk0] at hk1
  have h256 : k < 256 := by rw [← hk0]; exact (l.getD 0 0).toNat_lt
  clear hc hf hl hk0
  go_enter Tryz.func54, Tryz.ntmps54
  go_wp2_with fail
  refine (hk1 _ (hb0 _).rest (hb0 _).mark).mono ?_
  rintro e w1 ⟨rfl, hb1⟩
  have hc1 := hb1.rest
  have hf1 := hb1.mark
  have hA1 := (hb0 _).trans hb1
  obtain ⟨hq1, hq2⟩ := hb1.five hrn
  have hz1 : w.heap.size < w1.heap.size := by have := hb1.size; simp at this; omega
  have hb1r : rb < w1.heap.size := by omega
  have hn1 : w1.heap.size ≠ rb := by omega
  have hge : w.heap.size ≤ w1.heap.size := by omega
  have hk2 : ((k : Int) == 0) = false := by simpa using h0
  have hk3 : ((k : Int) == 1) = false := by simp; omega
  have hz5 : w.heap.size ≠ w1.heap.size := by omega
  clear hk1 hb1
  go_wp2_with fail
  refine bodyPost_ret (v := nodeV ⟨k, [], [], 0, 0⟩) (by simp [results, Tryz.results54, go_sem, hq1, nodeV, hz1]; try rfl) rfl ⟨rfl, ?_⟩
  refine Adv.alloc ?_ _ (by simp only [World.size_setCell]; exact hb1r)
  repeat (refine Adv.setNew ?_ _ _ (Nat.le_refl _) hrn)
  exact hA1

/-- The document's reader of nodes, whatever the bytes. -/
theorem rnode_rd (rb : Nat) (l : List UInt8) (w : World) (hl : l.length ≤ 9223372036854775807)
    (hc : w.cell? ⟨rb, 0, none⟩ = some (.string (S l))) (hf : w.frozen? ⟨rb, 0, none⟩ = false) :
    Calls Tryz.prog 54 #[.pointer (some ⟨rb, 0, none⟩)] w fun e w' => e = .returned (nodeV (rNode l).1) ∧ Adv ⟨rb, 0, none⟩ (rNode l).2 w w' := by
  unfold rNode
  simp only
  by_cases h0 : (l.getD 0 0).toNat = 0
  · rw [if_pos h0]
    exact rnode_leaf rb l _ _ _ _ _ _ w hl h0 rfl rfl rfl rfl hc hf
  · rw [if_neg h0]
    by_cases h1 : (l.getD 0 0).toNat = 1
    · rw [if_pos h1]
      exact rnode_branch rb l _ _ _ _ _ _ w hl h1 rfl rfl rfl hc hf
    · rw [if_neg h1]
      exact rnode_other rb l _ w hl rfl h0 h1 hc hf
end Go.Proofs.YtddcbeeldjjmeaaGreatDoor.Tw
