/- DecodeManifest: the program's. -/
import Derived.Test.YtddcbeeldjjmeaaGreatDoorDecM4
namespace Go.Proofs.YtddcbeeldjjmeaaGreatDoor.Tw
open Go.RowKit Go.Proofs.YtddcbeeldjjmeaaGreatDoor.Pu
set_option linter.unusedVariables false
set_option linter.unusedSimpArgs false

theorem NRow.alloc {w : World} {g : Nat} {l : List Int} (h : NRow w g l) (o : Obj) : NRow (w.alloc o) g l := h.keep (Below.heap_alloc _ _ _ h.lt)
theorem NRow.drew {w : World} {g : Nat} {l : List Int} (h : NRow w g l) : NRow w.drew g l := h
theorem decM_pM (l : List UInt8) (m : Mf) (hp : decM l = some m) : pM l = some (m, []) := by
  unfold decM at hp
  cases h : pM l with
  | none => rw [h] at hp; cases hp
  | some x =>
    obtain ⟨n, r⟩ := x
    rw [h] at hp
    cases r with
    | nil => simp only [Option.some.injEq] at hp; rw [hp]
    | cons c r => cases hp

theorem eq_nils (w : World) : (Go.binOp .eql 95 .nilIface .nilIface).run Tryz.prog w = .ok (.bool true) w := by
  have h : ∀ d : Nat, (Op.equalIn (d + 1) 95 .nilIface .nilIface).run Tryz.prog w = .ok true w := fun d => by simp [Op.equalIn, run_underlying Tryz.underlying95]
  simp only [Go.binOp]
  simp [Op.equal, Op.maxDepth, h 9999]

set_option maxHeartbeats 1000000 in
theorem wdecM_ok (l : List UInt8) (m : Mf) (w : World) (hp : decM l = some m) (hl : l.length ≤ 9223372036854775807) :
    Calls Tryz.prog 64 #[.string (S l)] w fun e w' => ∃ g, e = .returned (.tuple #[manV m (.slice (some ⟨g, 0, none⟩) m.digests.length m.digests.length), .nilIface]) ∧ w.heap.size ≤ g ∧ NRow w' g m.digests ∧ Below w.heap.size w w' := by
  have hnn := neq_nil
  have hk1 := fun rb w hc hf => man_ok rb l [] m w (decM_pM l m hp) hl hc hf
  have hen := eq_nils
  clear hp
  unfold manV at hk1 ⊢
  go_enter Tryz.func64, Tryz.ntmps64
  go_wp2_with fail
  refine (hk1 _ _ (by simp) (by simp)).mono ?_
  rintro e w1 ⟨g, rfl, hg, hrow, hb1⟩
  have hc1 := hb1.rest
  have hf1 := hb1.mark
  have hg2 : w.heap.size + 2 ≤ g := by simpa using hg
  have hgl := hrow.lt
  have hsz : w.heap.size + 2 ≤ w1.heap.size := by omega
  have hlt : w.heap.size < w1.heap.size := by omega
  obtain ⟨hq1, hq2⟩ := hb1.five2 (by show w.heap.size ≠ w.heap.size + 1; omega)
  have hbw : Below w.heap.size w w1 := (((Below.refl _ w).alloc (Nat.le_refl _) _).alloc (by simp) _).trans (hb1.below (by show w.heap.size ≤ w.heap.size + 1; omega) (by simp; omega))
  clear hk1
  go_wp2_with fail
  refine (end_ok _ _ ?_).mono ?_
  · exact (((Below.refl _ w1).alloc (Nat.le_refl _) _).cell (p := ⟨w.heap.size + 1, 0, none⟩) (by show w.heap.size + 1 < w1.heap.size; omega)).trans hc1
  rintro e w2 ⟨rfl, rfl⟩
  have HB : Hid _ := hbw
  have HZ : Hid _ := hsz
  have HR : Hid _ := hrow
  have HG : Hid _ := hg2
  have hsz2 : w.heap.size + 1 ≠ w1.heap.size := by omega
  clear hc1 hf1 hsz hbw hb1 hen hrow hg hg2 hgl
  simp only []
  repeat go_step
  refine bodyPost_ret (v := .tuple #[.agg #[.int .i64 m.width, .int .i64 m.root, .int .i64 m.size, .int .i64 m.total, .slice (some ⟨g, 0, none⟩) m.digests.length m.digests.length], .nilIface]) (by simp [results, Tryz.results64, go_sem, hq1, hlt]; try rfl) rfl ⟨g, rfl, by have := HG.out; omega, ?_, ?_⟩
  · refine NRow.alloc ?_ _
    repeat (refine NRow.setO ?_ _ _ _ (by have := HG.out; omega))
    exact HR.out
  · refine Below.alloc ?_ (by simp only [World.size_setCell]; have := HZ.out; omega) _
    repeat (refine below_set ?_ _ _ _ (Nat.le_refl _))
    exact HB.out

set_option maxHeartbeats 1000000 in
theorem wdecM_bad (A : Nat → Addr) (B : Nat) (l : List UInt8) (w : World) (hS : Sents A B w) (hT : Tab w) (hTB : 23 < B) (hp : decM l = none) (hl : l.length ≤ 9223372036854775807) :
    Calls Tryz.prog 64 #[.string (S l)] w fun e w' => ∃ t x, e = .returned (.tuple #[zeroMV, .iface t x]) ∧ Bad A (.iface t x) ∧ Below w.heap.size w w' := by
  have hnn := neq_nil
  have hhd := neq_held
  have heh := eq_held
  have hS0 : ∀ o1 o2, Sents A B ((w.alloc o1).alloc o2) := fun o1 o2 => hS.to (((Below.refl _ w).alloc hS.size _).alloc (by have := hS.size; simp; omega) _)
  have hT0 : ∀ o1 o2, Tab ((w.alloc o1).alloc o2) := fun o1 o2 => hT.to (B := B) (((Below.refl _ w).alloc hS.size _).alloc (by have := hS.size; simp; omega) _) hTB
  have hBs := hS.size
  unfold decM at hp
  unfold zeroMV
  cases h : pM l with
  | none =>
    have hk1 := fun rb w hS hT hB hc hf => man_bad A B rb l w hS hT hTB hB h hl hc hf
    unfold zeroMV at hk1
    clear hp h
    go_enter Tryz.func64, Tryz.ntmps64
    go_wp2_with fail
    refine (hk1 _ _ (hS0 _ _) (hT0 _ _) (by omega) (by simp) (by simp)).mono ?_
    rintro e w1 ⟨t, x, l1, rfl, hbad, hb1⟩
    have hsz : w.heap.size + 2 ≤ w1.heap.size := by have := hb1.size; simp at this; omega
    have hlt : w.heap.size < w1.heap.size := by omega
    obtain ⟨hq1, hq2⟩ := hb1.five2 (by show w.heap.size ≠ w.heap.size + 1; omega)
    have hbw : Below w.heap.size w w1 := (((Below.refl _ w).alloc (Nat.le_refl _) _).alloc (by simp) _).trans (hb1.below (by show w.heap.size ≤ w.heap.size + 1; omega) (by simp; omega))
    clear hk1
    go_wp2_with fail
    refine (at_bad (A := A) _ _ _ hbad).mono ?_
    rintro e w' ⟨t', x', rfl, hbad', rfl⟩
    have HB : Hid _ := hbw
    have HZ : Hid _ := hsz
    have hsz2 : w.heap.size + 1 ≠ w1.heap.size := by omega
    clear hsz hbw hb1
    simp only []
    repeat go_step
    refine bodyPost_ret (v := .tuple #[.agg #[.int .i64 0, .int .i64 0, .int .i64 0, .int .i64 0, .slice none 0 0], .iface t' x']) (by simp [results, Tryz.results64, go_sem, hq1, hlt]; try rfl) rfl ⟨_, _, rfl, hbad', ?_⟩
    refine Below.alloc ?_ (by simp only [World.size_setCell]; have := HZ.out; omega) _
    repeat (refine below_set ?_ _ _ _ (Nat.le_refl _))
    exact HB.out
  | some y =>
    obtain ⟨m, r⟩ := y
    rw [h] at hp
    cases r with
    | nil => cases hp
    | cons c r =>
      have hk1 := fun rb w hc hf => man_ok rb l (c :: r) m w h hl hc hf
      have hen := eq_nils
      unfold manV at hk1
      clear hp h
      go_enter Tryz.func64, Tryz.ntmps64
      go_wp2_with fail
      refine (hk1 _ _ (by simp) (by simp)).mono ?_
      rintro e w1 ⟨g, rfl, hg, hrow, hb1⟩
      have hc1 := hb1.rest
      have hsz : w.heap.size + 2 ≤ w1.heap.size := by have := hb1.size; simp at this; omega
      have hlt : w.heap.size < w1.heap.size := by omega
      obtain ⟨hq1, hq2⟩ := hb1.five2 (by show w.heap.size ≠ w.heap.size + 1; omega)
      have hbw : Below w.heap.size w w1 := (((Below.refl _ w).alloc (Nat.le_refl _) _).alloc (by simp) _).trans (hb1.below (by show w.heap.size ≤ w.heap.size + 1; omega) (by simp; omega))
      have hS1 : ∀ o, Sents A B (w1.alloc o) := fun o => hS.to ((hbw.mono hBs).alloc (by omega) _)
      clear hk1 hrow hg
      go_wp2_with fail
      refine (end_bad A B _ c r _ (hS1 _) ?_).mono ?_
      · exact (((Below.refl _ w1).alloc (Nat.le_refl _) _).cell (p := ⟨w.heap.size + 1, 0, none⟩) (by show w.heap.size + 1 < w1.heap.size; omega)).trans hc1
      rintro e w2 ⟨t, x, rfl, hbad, rfl⟩
      go_wp2_with fail
      refine (at_bad (A := A) _ _ _ hbad).mono ?_
      rintro e w' ⟨t', x', rfl, hbad', rfl⟩
      have HB : Hid _ := hbw
      have HZ : Hid _ := hsz
      have hsz2 : w.heap.size + 1 ≠ w1.heap.size := by omega
      clear hc1 hsz hbw hb1 hen hS1
      simp only []
      repeat go_step
      refine bodyPost_ret (v := .tuple #[.agg #[.int .i64 0, .int .i64 0, .int .i64 0, .int .i64 0, .slice none 0 0], .iface t' x']) (by simp [results, Tryz.results64, go_sem, hq1, hlt]; try rfl) rfl ⟨_, _, rfl, hbad', ?_⟩
      refine Below.alloc ?_ (by simp only [World.size_setCell]; have := HZ.out; omega) _
      repeat (refine below_set ?_ _ _ _ (Nat.le_refl _))
      exact HB.out

set_option maxHeartbeats 400000 in
theorem tdecM_ok (l : List UInt8) (m : Mf) (w : World) (h : decM l = some m) (hl : l.length ≤ 9223372036854775807) :
    Calls Tryz.prog 25 #[.string (S l)] w fun e w' => ∃ g, e = .returned (.tuple #[manV m (.slice (some ⟨g, 0, none⟩) m.digests.length m.digests.length), .int .i64 0]) ∧ w.heap.size ≤ g ∧ NRow w' g m.digests ∧ Below w.heap.size w w' := by
  have hk := fun w => wdecM_ok l m w h hl
  clear h
  unfold manV at hk ⊢
  go_enter Tryz.func25, Tryz.ntmps25
  go_wp2_with fail
  refine (hk _).mono ?_
  rintro e w1 ⟨g, rfl, hg, hrow, hb1⟩
  have hbw : Below w.heap.size w w1 := ((Below.refl _ w).alloc (Nat.le_refl _) _).trans (hb1.mono (by simp))
  have hg1 : w.heap.size + 1 ≤ g := by simpa using hg
  have hsz : w.heap.size + 1 ≤ w1.heap.size := by have := hrow.lt; omega
  have hq1 : w1.cell? ⟨w.heap.size, 0, none⟩ = some (.int .i64 0) ∧ w1.cell? ⟨w.heap.size, 1, none⟩ = some (.int .i64 0) ∧ w1.cell? ⟨w.heap.size, 2, none⟩ = some (.int .i64 0) ∧ w1.cell? ⟨w.heap.size, 3, none⟩ = some (.int .i64 0) ∧ w1.cell? ⟨w.heap.size, 4, none⟩ = some (.slice none 0 0) := by
    refine ⟨?_, ?_, ?_, ?_, ?_⟩ <;> (rw [hb1.cell (by simp)]; simp)
  have hq2 : ∀ o, w1.frozen? ⟨w.heap.size, o, none⟩ = false := fun o => by rw [hb1.frozen (by simp)]; simp
  have hlt : w.heap.size < w1.heap.size := by omega
  have HB : Hid _ := hbw
  have HZ : Hid _ := hsz
  have HR : Hid _ := hrow
  have HG : Hid _ := hg1
  clear hb1 hbw hsz hrow hg1 hg
  go_wp2_with fail
  go_region_with (go_at_call 44; refine (errno_nil _).mono ?_; rintro e w' ⟨rfl, rfl⟩)
  all_goals
    simp only [Exit.then]
    repeat go_step
    refine bodyPost_ret (v := .tuple #[.agg #[.int .i64 m.width, .int .i64 m.root, .int .i64 m.size, .int .i64 m.total, .slice (some ⟨g, 0, none⟩) m.digests.length m.digests.length], .int .i64 0]) (by simp [results, Tryz.results25, go_sem, hq1, hlt]; try rfl) rfl ⟨g, rfl, by have := HG.out; omega, ?_, ?_⟩
    · repeat (first | (with_reducible refine NRow.drew ?_) | (with_reducible refine NRow.alloc ?_ _) | (with_reducible refine NRow.setO ?_ _ _ _ (by have := HG.out; omega)))
      exact HR.out
    · repeat (first | (with_reducible refine Below.drew ?_) | (with_reducible refine Below.alloc ?_ (by simp only [World.size_setCell]; have := HZ.out; omega) _) | (with_reducible refine below_set ?_ _ _ _ (Nat.le_refl _)))
      exact HB.out

set_option maxHeartbeats 1000000 in
theorem tdecM_bad (A : Nat → Addr) (B : Nat) (l : List UInt8) (w : World) (hS : Sents A B w) (hT : Tab w) (hTB : 23 < B) (h : decM l = none) (hl : l.length ≤ 9223372036854775807) :
    Calls Tryz.prog 25 #[.string (S l)] w fun e w' => e = .returned (.tuple #[zeroMV, .int .i64 4]) ∧ Below w.heap.size w w' := by
  have hBs := hS.size
  have hk := fun w hS hT => wdecM_bad A B l w hS hT hTB h hl
  have hS0 : ∀ o, Sents A B (w.alloc o) := fun o => hS.to ((Below.refl _ w).alloc hBs _)
  have hT0 : ∀ o, Tab (w.alloc o) := fun o => hT.to (B := B) ((Below.refl _ w).alloc hBs _) hTB
  clear h
  unfold zeroMV at hk ⊢
  go_enter Tryz.func25, Tryz.ntmps25
  go_wp2_with fail
  refine (hk _ (hS0 _) (hT0 _)).mono ?_
  rintro e w1 ⟨t, x, rfl, hbad, hb1⟩
  have hbw : Below w.heap.size w w1 := ((Below.refl _ w).alloc (Nat.le_refl _) _).trans (hb1.mono (by simp))
  have hsz : w.heap.size + 1 ≤ w1.heap.size := by have := hb1.size; simp at this; omega
  have hS1 : ∀ o, Sents A B ((w1.alloc o).drew) := fun o => hS.to ((hbw.mono hBs).alloc (by omega) _).drew
  have hS2 : ∀ o, Sents A B (w1.alloc o) := fun o => hS.to ((hbw.mono hBs).alloc (by omega) _)
  have hq1 : w1.cell? ⟨w.heap.size, 0, none⟩ = some (.int .i64 0) ∧ w1.cell? ⟨w.heap.size, 1, none⟩ = some (.int .i64 0) ∧ w1.cell? ⟨w.heap.size, 2, none⟩ = some (.int .i64 0) ∧ w1.cell? ⟨w.heap.size, 3, none⟩ = some (.int .i64 0) ∧ w1.cell? ⟨w.heap.size, 4, none⟩ = some (.slice none 0 0) := by
    refine ⟨?_, ?_, ?_, ?_, ?_⟩ <;> (rw [hb1.cell (by simp)]; simp)
  have hq2 : ∀ o, w1.frozen? ⟨w.heap.size, o, none⟩ = false := fun o => by rw [hb1.frozen (by simp)]; simp
  have hlt : w.heap.size < w1.heap.size := by omega
  go_wp2_with fail
  have HB : Hid _ := hbw
  have HZ : Hid _ := hsz
  clear hb1 hbw hsz
  have hS3 : ∀ (W : World) (o : Obj), (W = w1.alloc o ∨ W = (w1.alloc o).drew) → Sents A B W := fun W o e => by
    rcases e with rfl | rfl
    · exact hS2 o
    · exact hS1 o
  clear hS1 hS2
  go_region_with (go_at_call 44; refine (errno_bad2 A B _ _ (by first | exact hS3 _ _ (Or.inl rfl) | exact hS3 _ _ (Or.inr rfl)) hbad).mono ?_; rintro e w2 ⟨rfl, hcc, hcf, hz2, hb2⟩)
  all_goals
    have h2 : w2.cell? ⟨w.heap.size, 0, none⟩ = some (.int .i64 0) ∧ w2.cell? ⟨w.heap.size, 1, none⟩ = some (.int .i64 0) ∧ w2.cell? ⟨w.heap.size, 2, none⟩ = some (.int .i64 0) ∧ w2.cell? ⟨w.heap.size, 3, none⟩ = some (.int .i64 0) ∧ w2.cell? ⟨w.heap.size, 4, none⟩ = some (.slice none 0 0) := by
      refine ⟨?_, ?_, ?_, ?_, ?_⟩ <;> (rw [hcc _ _ (by simp; omega)]; simp [hlt, hq1, World.cell?_alloc_past])
    simp only [Exit.then]
    repeat go_step
    refine bodyPost_ret (v := .tuple #[.agg #[.int .i64 0, .int .i64 0, .int .i64 0, .int .i64 0, .slice none 0 0], .int .i64 4]) (by simp [results, Tryz.results25, go_sem, h2, hlt]; try rfl) rfl ⟨rfl, ?_⟩
    have hbz : Below w.heap.size w w2 := by
      refine Below.trans ?_ (hb2.out.mono (by simp; have := HZ.out; omega))
      repeat (first | (with_reducible refine Below.drew ?_) | (with_reducible refine Below.alloc ?_ (by have := HZ.out; omega) _))
      exact HB.out
    repeat (first | (with_reducible refine Below.drew ?_) | (with_reducible refine below_set ?_ _ _ _ (Nat.le_refl _)))
    exact hbz
end Go.Proofs.YtddcbeeldjjmeaaGreatDoor.Tw
