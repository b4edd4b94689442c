/- The document's answer: a node, read; DecodeNode. -/
import Derived.Test.YtddcbeeldjjmeaaGreatDoorRefP
import Derived.Test.YtddcbeeldjjmeaaGreatDoorNode
namespace Go.Proofs.YtddcbeeldjjmeaaGreatDoor.Tw
open Go.RowKit Go.Proofs.YtddcbeeldjjmeaaGreatDoor.Pu
set_option linter.unusedVariables false
set_option linter.unusedSimpArgs false

/-- Five cells of a block, none of them frozen. -/
def At5 (b : Nat) (c0 c1 c2 c3 c4 : Value) (w : World) : Prop :=
  (w.cell? ⟨b, 0, none⟩ = some c0 ∧ w.cell? ⟨b, 1, none⟩ = some c1 ∧ w.cell? ⟨b, 2, none⟩ = some c2 ∧ w.cell? ⟨b, 3, none⟩ = some c3 ∧ w.cell? ⟨b, 4, none⟩ = some c4) ∧ ∀ o, w.frozen? ⟨b, o, none⟩ = false
theorem At5.adv {a : Addr} {l : List UInt8} {w0 w1 : World} {b : Nat} {c0 c1 c2 c3 c4 : Value} (h5 : At5 b c0 c1 c2 c3 c4 w0) (h : Adv a l w0 w1) (hb : b < w0.heap.size) (hn : b ≠ a.block) : At5 b c0 c1 c2 c3 c4 w1 := by
  obtain ⟨k1, k2⟩ := h.cells b hb hn
  unfold At5 at h5 ⊢
  simp only [k1, k2]
  exact h5
theorem At5.set1 {w0 : World} {b : Nat} {c0 c1 c2 c3 c4 : Value} (h5 : At5 b c0 c1 c2 c3 c4 w0) (v : Value) : At5 b c0 v c2 c3 c4 (w0.setCell ⟨b, 1, none⟩ v) := by
  obtain ⟨⟨k0, k1, k2, k3, k4⟩, hz⟩ := h5
  exact ⟨⟨(World.cell?_setCell_other _ _ _ _ (by simp)).trans k0, World.cell?_setCell_same _ _ _ k1, (World.cell?_setCell_other _ _ _ _ (by simp)).trans k2, (World.cell?_setCell_other _ _ _ _ (by simp)).trans k3, (World.cell?_setCell_other _ _ _ _ (by simp)).trans k4⟩, fun o => by rw [World.frozen?_setCell]; exact hz o⟩
theorem At5.set2 {w0 : World} {b : Nat} {c0 c1 c2 c3 c4 : Value} (h5 : At5 b c0 c1 c2 c3 c4 w0) (v : Value) : At5 b c0 c1 v c3 c4 (w0.setCell ⟨b, 2, none⟩ v) := by
  obtain ⟨⟨k0, k1, k2, k3, k4⟩, hz⟩ := h5
  exact ⟨⟨(World.cell?_setCell_other _ _ _ _ (by simp)).trans k0, (World.cell?_setCell_other _ _ _ _ (by simp)).trans k1, World.cell?_setCell_same _ _ _ k2, (World.cell?_setCell_other _ _ _ _ (by simp)).trans k3, (World.cell?_setCell_other _ _ _ _ (by simp)).trans k4⟩, fun o => by rw [World.frozen?_setCell]; exact hz o⟩
theorem At5.set3 {w0 : World} {b : Nat} {c0 c1 c2 c3 c4 : Value} (h5 : At5 b c0 c1 c2 c3 c4 w0) (v : Value) : At5 b c0 c1 c2 v c4 (w0.setCell ⟨b, 3, none⟩ v) := by
  obtain ⟨⟨k0, k1, k2, k3, k4⟩, hz⟩ := h5
  exact ⟨⟨(World.cell?_setCell_other _ _ _ _ (by simp)).trans k0, (World.cell?_setCell_other _ _ _ _ (by simp)).trans k1, (World.cell?_setCell_other _ _ _ _ (by simp)).trans k2, World.cell?_setCell_same _ _ _ k3, (World.cell?_setCell_other _ _ _ _ (by simp)).trans k4⟩, fun o => by rw [World.frozen?_setCell]; exact hz o⟩
theorem At5.setO {w0 : World} {b : Nat} {c0 c1 c2 c3 c4 : Value} (h5 : At5 b c0 c1 c2 c3 c4 w0) (g o : Nat) (v : Value) (hn : b ≠ g) : At5 b c0 c1 c2 c3 c4 (w0.setCell ⟨g, o, none⟩ v) := by
  obtain ⟨⟨k0, k1, k2, k3, k4⟩, hz⟩ := h5
  exact ⟨⟨(World.cell?_setCell_far _ _ _ _ (fun h => hn h.symm)).trans k0, (World.cell?_setCell_far _ _ _ _ (fun h => hn h.symm)).trans k1, (World.cell?_setCell_far _ _ _ _ (fun h => hn h.symm)).trans k2, (World.cell?_setCell_far _ _ _ _ (fun h => hn h.symm)).trans k3, (World.cell?_setCell_far _ _ _ _ (fun h => hn h.symm)).trans k4⟩, fun o => by rw [World.frozen?_setCell]; exact hz o⟩
theorem r4_rest (l : List UInt8) : (r4 l).2.length ≤ l.length := by simp [r4]
theorem rPath_rest (l : List UInt8) : (rPath l).2.length ≤ l.length := by
  have := rNum_rest l
  simp only [rPath, List.length_drop]
  omega

set_option maxHeartbeats 1000000 in
theorem rnode_leaf (rb : Nat) (l p v l1 l2 l3 : List UInt8) (m : Nat) (w : World) (hl : l.length ≤ 9223372036854775807) (hk0 : (l.getD 0 0).toNat = 0)
    (e1 : rPath (l.drop 1) = (p, l1)) (e2 : rNum l1 = (m, l2)) (e3 : l2.take m = v) (e4 : l2.drop m = l3)
    (hc : w.cell? ⟨rb, 0, none⟩ = some (.string (S l))) (hf : w.frozen? ⟨rb, 0, none⟩ = false) :
    Calls Tryz.prog 54 #[.pointer (some ⟨rb, 0, none⟩)] w fun e w' => e = .returned (nodeV ⟨0, p, v, 0, 0⟩) ∧ Adv ⟨rb, 0, none⟩ l3 w w' := by
  have hrb : rb < w.heap.size := cell_lt hc
  have hrn : w.heap.size ≠ rb := by omega
  have hb0 : ∀ o, Adv ⟨rb, 0, none⟩ l w (w.alloc o) := fun o => (Adv.refl hc hf).alloc o hrb
  have hd0 : (l.drop 1).length ≤ 9223372036854775807 := by rw [List.length_drop]; omega
  have hd1 : l1.length ≤ 9223372036854775807 := by have := rPath_rest (l.drop 1); rw [e1] at this; simp only at this; omega
  have hd2 : l2.length ≤ 9223372036854775807 := by have := rNum_rest l1; rw [e2] at this; simp only at this; omega
  have hk1 := fun w hc hf => rone_any rb l w hl hc hf
  have hk2 := fun w hc hf => rpath_rd rb (l.drop 1) w hd0 hc hf
  have hk3 := fun w hc hf => rnumber_rd rb l1 w hd1 hc hf
  have hk4 := fun w hc hf => rtake_any rb l2 m w hd2 hc hf
  rw [hk0] at hk1
  rw [e1] at hk2
  rw [e2] at hk3
  rw [e3, e4] at hk4
  simp only at hk2 hk3
  clear e1 e2 e3 e4 hc hf hl hd0 hd1 hd2 hk0
  go_enter Tryz.func54, Tryz.ntmps54
  go_wp2_with fail
  refine (hk1 _ (hb0 _).rest (hb0 _).mark).mono ?_
  rintro e w1 ⟨rfl, hb1⟩
  have hc1 := hb1.rest
  have hf1 := hb1.mark
  have hA1 := (hb0 _).trans hb1
  obtain ⟨hq1, hq2⟩ := hb1.five hrn
  have hz1 : w.heap.size < w1.heap.size := by have := hb1.size; simp at this; omega
  clear hk1
  go_wp2_with fail
  have hb1r : rb < w1.heap.size := by omega
  have hn1 : w1.heap.size ≠ rb := by omega
  have hge : w.heap.size ≤ w1.heap.size := by omega
  have hA2 := fun o => hA1.alloc o hb1r
  refine (hk2 _ (hA2 _).rest (hA2 _).mark).mono ?_
  rintro e w2 ⟨rfl, hb2⟩
  have hr : At5 w1.heap.size (.int .i64 0) (.string ⟨#[]⟩) (.string ⟨#[]⟩) (.int .i64 0) (.int .i64 0) w2 := hb2.five hn1
  have hs : At5 w.heap.size (.int .i64 0) (.string ⟨#[]⟩) (.string ⟨#[]⟩) (.int .i64 0) (.int .i64 0) w2 := by
    refine At5.adv ?_ ((Adv.refl hc1 hf1).alloc _ hb1r |>.trans hb2) hz1 hrn
    exact ⟨hq1, hq2⟩
  have hA3 := (hA2 _).trans hb2
  have hz2 : w1.heap.size < w2.heap.size := by have := hb2.size; simp at this; omega
  have hr' := hr
  obtain ⟨hr1, hr2⟩ := hr
  clear hk2 hb2 hb1 hc1 hf1 hA2 hq1 hq2
  go_wp2_with fail
  have hA3' := hA3.setNew ⟨w1.heap.size, 1, none⟩ (.string (S p)) hge hn1
  refine (hk3 _ hA3'.rest hA3'.mark).mono ?_
  rintro e w3 ⟨rfl, hb3⟩
  have hr3 := (hr'.set1 (.string (S p))).adv hb3 (by simpa using hz2) hn1
  have hs3 := (hs.setO w1.heap.size 1 (.string (S p)) (by omega)).adv hb3 (by simp; omega) hrn
  have hA4 := hA3'.trans hb3
  have hz3 : w1.heap.size < w3.heap.size := by have := hb3.size; simp at this; omega
  clear hk3 hb3 hA3 hA3' hs hr' hr1 hr2 hA1
  go_wp2_with fail
  refine (hk4 _ hA4.rest hA4.mark).mono ?_
  rintro e w4 ⟨rfl, hb4⟩
  have hr4 := hr3.adv hb4 hz3 hn1
  have hs4 := hs3.adv hb4 (by omega) hrn
  have hA5 := hA4.trans hb4
  have hz4 : w1.heap.size < w4.heap.size := by have := hb4.size; omega
  have hz5 : w.heap.size ≠ w1.heap.size := by omega
  clear hk4 hb4 hA4 hs3 hr3
  obtain ⟨hr1, hr2⟩ := hr4
  obtain ⟨hs1, hs2⟩ := hs4
  simp only []
  repeat go_step
  refine bodyPost_ret (v := nodeV ⟨0, p, v, 0, 0⟩) (by simp [results, Tryz.results54, go_sem, hr1, hs1, nodeV]; try rfl) rfl ⟨rfl, ?_⟩
  repeat (refine Adv.setNew ?_ _ _ (by first | exact Nat.le_refl _ | exact hge) (by first | exact hrn | exact hn1))
  exact hA5

set_option maxHeartbeats 1000000 in
theorem rnode_branch (rb : Nat) (l p l1 l2 l3 : List UInt8) (x y : Nat) (w : World) (hl : l.length ≤ 9223372036854775807) (hk0 : (l.getD 0 0).toNat = 1)
    (e1 : rPath (l.drop 1) = (p, l1)) (e2 : r4 l1 = (x, l2)) (e3 : r4 l2 = (y, l3))
    (hc : w.cell? ⟨rb, 0, none⟩ = some (.string (S l))) (hf : w.frozen? ⟨rb, 0, none⟩ = false) :
    Calls Tryz.prog 54 #[.pointer (some ⟨rb, 0, none⟩)] w fun e w' => e = .returned (nodeV ⟨1, p, [], x, y⟩) ∧ Adv ⟨rb, 0, none⟩ l3 w w' := by
  have hrb : rb < w.heap.size := cell_lt hc
  have hrn : w.heap.size ≠ rb := by omega
  have hb0 : ∀ o, Adv ⟨rb, 0, none⟩ l w (w.alloc o) := fun o => (Adv.refl hc hf).alloc o hrb
  have hd0 : (l.drop 1).length ≤ 9223372036854775807 := by rw [List.length_drop]; omega
  have hd1 : l1.length ≤ 9223372036854775807 := by have := rPath_rest (l.drop 1); rw [e1] at this; simp only at this; omega
  have hd2 : l2.length ≤ 9223372036854775807 := by have := r4_rest l1; rw [e2] at this; simp only at this; omega
  have hk1 := fun w hc hf => rone_any rb l w hl hc hf
  have hk2 := fun w hc hf => rpath_rd rb (l.drop 1) w hd0 hc hf
  have hk3 := fun w hc hf => rfour_rd rb l1 w hd1 hc hf
  have hk4 := fun w hc hf => rfour_rd rb l2 w hd2 hc hf
  rw [hk0] at hk1
  rw [e1] at hk2
  rw [e2] at hk3
  rw [e3] at hk4
  simp only at hk2 hk3 hk4
  clear e1 e2 e3 hc hf hl hd0 hd1 hd2 hk0
  go_enter Tryz.func54, Tryz.ntmps54
  go_wp2_with fail
  refine (hk1 _ (hb0 _).rest (hb0 _).mark).mono ?_
  rintro e w1 ⟨rfl, hb1⟩
  have hc1 := hb1.rest
  have hf1 := hb1.mark
  have hA1 := (hb0 _).trans hb1
  obtain ⟨hq1, hq2⟩ := hb1.five hrn
  have hz1 : w.heap.size < w1.heap.size := by have := hb1.size; simp at this; omega
  clear hk1
  go_wp2_with fail
  have hb1r : rb < w1.heap.size := by omega
  have hn1 : w1.heap.size ≠ rb := by omega
  have hge : w.heap.size ≤ w1.heap.size := by omega
  have hA2 := fun o => hA1.alloc o hb1r
  refine (hk2 _ (hA2 _).rest (hA2 _).mark).mono ?_
  rintro e w2 ⟨rfl, hb2⟩
  have hr : At5 w1.heap.size (.int .i64 1) (.string ⟨#[]⟩) (.string ⟨#[]⟩) (.int .i64 0) (.int .i64 0) w2 := hb2.five hn1
  have hs : At5 w.heap.size (.int .i64 0) (.string ⟨#[]⟩) (.string ⟨#[]⟩) (.int .i64 0) (.int .i64 0) w2 := by
    refine At5.adv ?_ ((Adv.refl hc1 hf1).alloc _ hb1r |>.trans hb2) hz1 hrn
    exact ⟨hq1, hq2⟩
  have hA3 := (hA2 _).trans hb2
  have hz2 : w1.heap.size < w2.heap.size := by have := hb2.size; simp at this; omega
  have hr' := hr
  obtain ⟨hr1, hr2⟩ := hr
  clear hk2 hb2 hb1 hc1 hf1 hA2 hq1 hq2
  go_wp2_with fail
  have hA3' := hA3.setNew ⟨w1.heap.size, 1, none⟩ (.string (S p)) hge hn1
  refine (hk3 _ hA3'.rest hA3'.mark).mono ?_
  rintro e w3 ⟨rfl, hb3⟩
  have hr3 := (hr'.set1 (.string (S p))).adv hb3 (by simpa using hz2) hn1
  have hs3 := (hs.setO w1.heap.size 1 (.string (S p)) (by omega)).adv hb3 (by simp; omega) hrn
  have hA4 := hA3'.trans hb3
  have hz3 : w1.heap.size < w3.heap.size := by have := hb3.size; simp at this; omega
  have hr3' := hr3
  obtain ⟨hr1, hr2⟩ := hr3
  clear hk3 hb3 hA3 hA3' hs hr' hA1
  go_wp2_with fail
  have hA4' := hA4.setNew ⟨w1.heap.size, 3, none⟩ (.int .i64 x) hge hn1
  refine (hk4 _ hA4'.rest hA4'.mark).mono ?_
  rintro e w4 ⟨rfl, hb4⟩
  have hr4 := (hr3'.set3 (.int .i64 x)).adv hb4 (by simpa using hz3) hn1
  have hs4 := (hs3.setO w1.heap.size 3 (.int .i64 x) (by omega)).adv hb4 (by simp; omega) hrn
  have hA5 := hA4'.trans hb4
  have hz4 : w1.heap.size < w4.heap.size := by have := hb4.size; simp at this; omega
  have hz5 : w.heap.size ≠ w1.heap.size := by omega
  clear hk4 hb4 hA4 hs3 hr3' hr1 hr2
  obtain ⟨hr1, hr2⟩ := hr4
  obtain ⟨hs1, hs2⟩ := hs4
  simp only []
  repeat go_step
  refine bodyPost_ret (v := nodeV ⟨1, p, [], x, y⟩) (by simp [results, Tryz.results54, go_sem, hr1, hs1, nodeV]; try rfl) rfl ⟨rfl, ?_⟩
  repeat (refine Adv.setNew ?_ _ _ (by first | exact Nat.le_refl _ | exact hge) (by first | exact hrn | exact hn1))
  exact hA5

end Go.Proofs.YtddcbeeldjjmeaaGreatDoor.Tw
