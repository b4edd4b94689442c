/- The document's DecodeNode; what is answered of bytes and of nodes, in one word each. -/
import Derived.Test.YtddcbeeldjjmeaaGreatDoorRefS
import Derived.Test.YtddcbeeldjjmeaaGreatDoorDec
namespace Go.Proofs.YtddcbeeldjjmeaaGreatDoor.Tw
open Go.RowKit Go.Proofs.YtddcbeeldjjmeaaGreatDoor.Pu
set_option linter.unusedVariables false
set_option linter.unusedSimpArgs false

/-- The five cells of a struct, where nothing below has turned. -/
theorem At5.below {B : Nat} {w0 w1 : World} {b : Nat} {c0 c1 c2 c3 c4 : Value} (h5 : At5 b c0 c1 c2 c3 c4 w0) (h : Below B w0 w1) (hb : b < B) : At5 b c0 c1 c2 c3 c4 w1 := by
  obtain ⟨⟨k0, k1, k2, k3, k4⟩, hz⟩ := h5
  exact ⟨⟨(h.cell hb).trans k0, (h.cell hb).trans k1, (h.cell hb).trans k2, (h.cell hb).trans k3, (h.cell hb).trans k4⟩, fun o => (h.frozen hb).trans (hz o)⟩
theorem At5.new (w : World) (c0 c1 c2 c3 c4 : Value) (t : TypeId) : At5 w.heap.size c0 c1 c2 c3 c4 (w.alloc (.cells #[c0, c1, c2, c3, c4] t)) :=
  ⟨⟨by simp, by simp, by simp, by simp, by simp⟩, fun o => World.frozen?_alloc_new _ _ _ _⟩

theorem rPath_short (l : List UInt8) : (rPath l).1.length ≤ 1000 := by
  show (signs (min (rNum l).1 1000) _).length ≤ 1000
  rw [signs_length]
  omega
theorem rNode_short (l : List UInt8) : (rNode l).1.path.length ≤ 1000 := by
  have h := rPath_short (l.drop 1)
  unfold rNode
  simp only
  split
  · exact h
  · split
    · exact h
    · simp
/-- What is read is right, just where it is written so again. -/
theorem decN_iff (l : List UInt8) (n : Nd) : decN l = some n ↔ encN (rNode l).1 = some l ∧ n = (rNode l).1 := by
  constructor
  · intro h
    have h1 := decN_sound n l h
    have h2 := rNode_e n l [] h1
    rw [List.append_nil] at h2
    rw [h2]
    exact ⟨h1, rfl⟩
  · rintro ⟨h, rfl⟩
    exact decN_e _ _ h

set_option maxHeartbeats 1000000 in
/-- The document's DecodeNode where what was read is written just so. -/
theorem rdec_ok (l : List UInt8) (n : Nd) (w : World) (h : decN l = some n) (hl : l.length ≤ 9223372036854775807) :
    Calls Tryz.prog 322 #[.string (S l)] w fun e w' => e = .returned (.tuple #[nodeV n, .int .i64 0]) ∧ Below w.heap.size w w' := by
  obtain ⟨he, hn⟩ := (decN_iff l n).1 h
  have hk1 := fun rb w hc hf => rnode_rd rb l w hl hc hf
  rw [← hn] at hk1 he
  have hk2 := fun w => renc_ok n l w he
  generalize (rNode l).2 = l2 at hk1
  clear h he hn hl
  unfold nodeV at hk1 hk2 ⊢
  go_enter Tryz.func322, Tryz.ntmps322
  go_wp2_with fail
  refine (hk1 _ _ (by simp) (by simp)).mono ?_
  rintro e w1 ⟨rfl, hb1⟩
  have hsz : w.heap.size + 2 ≤ w1.heap.size := by have := hb1.size; simp at this; omega
  have hlt : w.heap.size < w1.heap.size := by omega
  obtain ⟨hq1, hq2⟩ := hb1.five2 (by show w.heap.size ≠ w.heap.size + 1; omega)
  have hbw : Below w.heap.size w w1 := (((Below.refl _ w).alloc (Nat.le_refl _) _).alloc (by simp) _).trans (hb1.below (by show w.heap.size ≤ w.heap.size + 1; omega) (by simp; omega))
  clear hk1
  have hq0 := At5.new w1 (.int .i64 n.kind) (.string (S n.path)) (.string (S n.value)) (.int .i64 n.left) (.int .i64 n.right) 23
  have hr0 : At5 w.heap.size (.int .i64 0) (.string ⟨#[]⟩) (.string ⟨#[]⟩) (.int .i64 0) (.int .i64 0) w1 := ⟨hq1, hq2⟩
  have hr1 := hr0.below ((Below.refl w1.heap.size w1).alloc (Nat.le_refl _) (.cells #[.int .i64 n.kind, .string (S n.path), .string (S n.value), .int .i64 n.left, .int .i64 n.right] 23)) hlt
  have hb0 := hbw.alloc (by omega) (.cells #[.int .i64 n.kind, .string (S n.path), .string (S n.value), .int .i64 n.left, .int .i64 n.right] 23)
  go_wp2_with fail
  refine (hk2 _).mono ?_
  rintro e w2 ⟨rfl, hb2⟩
  have hq3 := hq0.below hb2 (by simp)
  have hr3 := hr1.below hb2 (by simp; omega)
  have hb3 := hb0.trans (hb2.mono (by simp; omega))
  have hne : w.heap.size ≠ w1.heap.size := by omega
  clear hb2 hb0 hbw hq0 hr0 hr1 hk2 hb1 hq1 hq2
  obtain ⟨hq3a, hq3b⟩ := hq3
  obtain ⟨hr3a, hr3b⟩ := hr3
  have hb4 : Hid _ := hb3
  clear hb3
  simp only []
  repeat go_step
  refine bodyPost_ret (v := .tuple #[nodeV n, .int .i64 0]) (by simp [results, Tryz.results322, go_sem, hr3a, nodeV, zeroN]; try rfl) rfl ⟨rfl, ?_⟩
  repeat (refine below_set ?_ _ _ _ (Nat.le_refl _))
  exact hb4.out

set_option maxHeartbeats 1000000 in
theorem rdec_bad1 (l : List UInt8) (w : World) (h : encN (rNode l).1 = none) (hl : l.length ≤ 9223372036854775807) :
    Calls Tryz.prog 322 #[.string (S l)] w fun e w' => e = .returned (.tuple #[nodeV zeroN, .int .i64 4]) ∧ Below w.heap.size w w' := by
  have hk1 := fun rb w hc hf => rnode_rd rb l w hl hc hf
  have hk2 := fun w => renc_no (rNode l).1 w h (by have := rNode_short l; omega)
  clear h
  generalize (rNode l).2 = l2 at hk1
  generalize (rNode l).1 = n at hk1 hk2
  clear hl
  unfold nodeV zeroN at *
  go_enter Tryz.func322, Tryz.ntmps322
  go_wp2_with fail
  refine (hk1 _ _ (by simp) (by simp)).mono ?_
  rintro e w1 ⟨rfl, hb1⟩
  have hsz : w.heap.size + 2 ≤ w1.heap.size := by have := hb1.size; simp at this; omega
  have hlt : w.heap.size < w1.heap.size := by omega
  obtain ⟨hq1, hq2⟩ := hb1.five2 (by show w.heap.size ≠ w.heap.size + 1; omega)
  have hbw : Below w.heap.size w w1 := (((Below.refl _ w).alloc (Nat.le_refl _) _).alloc (by simp) _).trans (hb1.below (by show w.heap.size ≤ w.heap.size + 1; omega) (by simp; omega))
  clear hk1
  have hq0 := At5.new w1 (.int .i64 n.kind) (.string (S n.path)) (.string (S n.value)) (.int .i64 n.left) (.int .i64 n.right) 23
  have hr0 : At5 w.heap.size (.int .i64 0) (.string ⟨#[]⟩) (.string ⟨#[]⟩) (.int .i64 0) (.int .i64 0) w1 := ⟨hq1, hq2⟩
  have hr1 := hr0.below ((Below.refl w1.heap.size w1).alloc (Nat.le_refl _) (.cells #[.int .i64 n.kind, .string (S n.path), .string (S n.value), .int .i64 n.left, .int .i64 n.right] 23)) hlt
  have hb0 := hbw.alloc (by omega) (.cells #[.int .i64 n.kind, .string (S n.path), .string (S n.value), .int .i64 n.left, .int .i64 n.right] 23)
  go_wp2_with fail
  refine (hk2 _).mono ?_
  rintro e w2 ⟨rfl, hb2⟩
  have hq3 := hq0.below hb2 (by simp)
  have hr3 := hr1.below hb2 (by simp; omega)
  have hb3 := hb0.trans (hb2.mono (by simp; omega))
  have hne : w.heap.size ≠ w1.heap.size := by omega
  clear hb2 hb0 hbw hq0 hr0 hr1 hk2 hb1 hq1 hq2
  obtain ⟨hq3a, hq3b⟩ := hq3
  obtain ⟨hr3a, hr3b⟩ := hr3
  have hb4 : Hid _ := hb3
  clear hb3
  simp only []
  repeat go_step
  refine bodyPost_ret (v := .tuple #[nodeV zeroN, .int .i64 4]) (by simp [results, Tryz.results322, go_sem, hr3a, nodeV, zeroN]; try rfl) rfl ⟨rfl, ?_⟩
  repeat (refine below_set ?_ _ _ _ (Nat.le_refl _))
  exact hb4.out

set_option maxHeartbeats 1000000 in
theorem rdec_bad2 (l b : List UInt8) (w : World) (h : encN (rNode l).1 = some b) (hb : ¬ b = l) (hl : l.length ≤ 9223372036854775807) :
    Calls Tryz.prog 322 #[.string (S l)] w fun e w' => e = .returned (.tuple #[nodeV zeroN, .int .i64 4]) ∧ Below w.heap.size w w' := by
  have hk1 := fun rb w hc hf => rnode_rd rb l w hl hc hf
  have hk2 := fun w => renc_ok (rNode l).1 b w h
  have hbl : ((S b).toList == (S l).toList) = false := by rw [Lib.toList_data, Lib.toList_data, S_list, S_list]; simpa using hb
  clear h hb
  generalize (rNode l).2 = l2 at hk1
  generalize (rNode l).1 = n at hk1 hk2
  clear hl
  unfold nodeV zeroN at *
  go_enter Tryz.func322, Tryz.ntmps322
  go_wp2_with fail
  refine (hk1 _ _ (by simp) (by simp)).mono ?_
  rintro e w1 ⟨rfl, hb1⟩
  have hsz : w.heap.size + 2 ≤ w1.heap.size := by have := hb1.size; simp at this; omega
  have hlt : w.heap.size < w1.heap.size := by omega
  obtain ⟨hq1, hq2⟩ := hb1.five2 (by show w.heap.size ≠ w.heap.size + 1; omega)
  have hbw : Below w.heap.size w w1 := (((Below.refl _ w).alloc (Nat.le_refl _) _).alloc (by simp) _).trans (hb1.below (by show w.heap.size ≤ w.heap.size + 1; omega) (by simp; omega))
  clear hk1
  have hq0 := At5.new w1 (.int .i64 n.kind) (.string (S n.path)) (.string (S n.value)) (.int .i64 n.left) (.int .i64 n.right) 23
  have hr0 : At5 w.heap.size (.int .i64 0) (.string ⟨#[]⟩) (.string ⟨#[]⟩) (.int .i64 0) (.int .i64 0) w1 := ⟨hq1, hq2⟩
  have hr1 := hr0.below ((Below.refl w1.heap.size w1).alloc (Nat.le_refl _) (.cells #[.int .i64 n.kind, .string (S n.path), .string (S n.value), .int .i64 n.left, .int .i64 n.right] 23)) hlt
  have hb0 := hbw.alloc (by omega) (.cells #[.int .i64 n.kind, .string (S n.path), .string (S n.value), .int .i64 n.left, .int .i64 n.right] 23)
  go_wp2_with fail
  refine (hk2 _).mono ?_
  rintro e w2 ⟨rfl, hb2⟩
  have hq3 := hq0.below hb2 (by simp)
  have hr3 := hr1.below hb2 (by simp; omega)
  have hb3 := hb0.trans (hb2.mono (by simp; omega))
  have hne : w.heap.size ≠ w1.heap.size := by omega
  clear hb2 hb0 hbw hq0 hr0 hr1 hk2 hb1 hq1 hq2
  obtain ⟨hq3a, hq3b⟩ := hq3
  obtain ⟨hr3a, hr3b⟩ := hr3
  have hb4 : Hid _ := hb3
  clear hb3
  simp only []
  repeat go_step
  refine bodyPost_ret (v := .tuple #[nodeV zeroN, .int .i64 4]) (by simp [results, Tryz.results322, go_sem, hr3a, nodeV, zeroN]; try rfl) rfl ⟨rfl, ?_⟩
  repeat (refine below_set ?_ _ _ _ (Nat.le_refl _))
  exact hb4.out

/-- The document's DecodeNode where what was read is written otherwise. -/
theorem rdec_bad (l : List UInt8) (w : World) (h : decN l = none) (hl : l.length ≤ 9223372036854775807) :
    Calls Tryz.prog 322 #[.string (S l)] w fun e w' => e = .returned (.tuple #[nodeV zeroN, .int .i64 4]) ∧ Below w.heap.size w w' := by
  cases he : encN (rNode l).1 with
  | none => exact rdec_bad1 l w he hl
  | some b =>
    refine rdec_bad2 l b w he (fun e => ?_) hl
    rw [e] at he
    rw [(decN_iff l _).2 ⟨he, rfl⟩] at h
    cases h
end Go.Proofs.YtddcbeeldjjmeaaGreatDoor.Tw
