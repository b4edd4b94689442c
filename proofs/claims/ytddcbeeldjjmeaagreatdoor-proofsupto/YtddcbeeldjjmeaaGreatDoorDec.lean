/- DecodeNode: the program's. -/
import Derived.Test.YtddcbeeldjjmeaaGreatDoorNode
import Derived.Deep.RegionWith
namespace Go.Proofs.YtddcbeeldjjmeaaGreatDoor.Tw
open Go.RowKit Go.Proofs.YtddcbeeldjjmeaaGreatDoor.Pu
set_option linter.unusedVariables false
set_option linter.unusedSimpArgs false

/-- The five cells of a struct that lies two blocks back. -/
theorem Adv.five2 {a : Addr} {l : List UInt8} {w w1 : World} {c0 c1 c2 c3 c4 : Value} {t : TypeId} {o : Obj} (h : Adv a l ((w.alloc (.cells #[c0, c1, c2, c3, c4] t)).alloc o) w1) (hn : w.heap.size ≠ a.block) :
    (w1.cell? ⟨w.heap.size, 0, none⟩ = some c0 ∧ w1.cell? ⟨w.heap.size, 1, none⟩ = some c1 ∧ w1.cell? ⟨w.heap.size, 2, none⟩ = some c2 ∧ w1.cell? ⟨w.heap.size, 3, none⟩ = some c3 ∧ w1.cell? ⟨w.heap.size, 4, none⟩ = some c4) ∧
    ∀ o, w1.frozen? ⟨w.heap.size, o, none⟩ = false := by
  obtain ⟨h1, h2⟩ := h.cells w.heap.size (by simp; omega) hn
  refine ⟨⟨?_, ?_, ?_, ?_, ?_⟩, ?_⟩
  · rw [h1]; simp
  · rw [h1]; simp
  · rw [h1]; simp
  · rw [h1]; simp
  · rw [h1]; simp
  · intro o; rw [h2]; simp

set_option maxHeartbeats 400000 in
theorem wdec_ok (A : Nat → Addr) (l : List UInt8) (n : Nd) (w : World) (hp : decN l = some n) (hl : l.length ≤ 9223372036854775807) :
    Calls Tryz.prog 62 #[.string (S l)] w fun e w' => e = .returned (.tuple #[nodeV n, .nilIface]) ∧ Below w.heap.size w w' := by
  have hnn := neq_nil
  have hpn : pNode l = some (n, []) := by
    unfold decN at hp
    cases h : pNode l with
    | none => rw [h] at hp; cases hp
    | some x =>
      obtain ⟨m, r⟩ := x
      rw [h] at hp
      cases r with
      | nil => simp only [Option.some.injEq] at hp; rw [hp]
      | cons c r => cases hp
  have hk1 := fun rb w hc hf => node_ok A rb l [] n w hpn hl hc hf
  have hen : ∀ w : World, (Go.binOp .eql 95 .nilIface .nilIface).run Tryz.prog w = .ok (.bool true) w := fun w => by
    have h : ∀ d : Nat, (Op.equalIn (d + 1) 95 .nilIface .nilIface).run Tryz.prog w = .ok true w := fun d => by simp [Op.equalIn, run_underlying Tryz.underlying95]
    simp only [Go.binOp]
    simp [Op.equal, Op.maxDepth, h 9999]
  clear hp hpn
  go_enter Tryz.func62, Tryz.ntmps62
  go_wp2_with fail
  refine (hk1 _ _ (by simp) (by simp)).mono ?_
  rintro e w1 ⟨rfl, hb1⟩
  have hc1 := hb1.rest
  have hf1 := hb1.mark
  have hsz : w.heap.size + 2 ≤ w1.heap.size := by have := hb1.size; simp at this; omega
  have hlt : w.heap.size < w1.heap.size := by omega
  obtain ⟨hq1, hq2⟩ := hb1.five2 (by show w.heap.size ≠ w.heap.size + 1; omega)
  have hbw : Below w.heap.size w w1 := (((Below.refl _ w).alloc (Nat.le_refl _) _).alloc (by simp) _).trans (hb1.below (by show w.heap.size ≤ w.heap.size + 1; omega) (by simp; omega))
  unfold nodeV
  clear hk1
  go_wp2_with fail
  refine (end_ok _ _ ?_).mono ?_
  · exact (((Below.refl _ w1).alloc (Nat.le_refl _) _).cell (p := ⟨w.heap.size + 1, 0, none⟩) (by show w.heap.size + 1 < w1.heap.size; omega)).trans hc1
  rintro e w2 ⟨rfl, rfl⟩
  have HB : Hid _ := hbw
  have HZ : Hid _ := hsz
  have hsz2 : w.heap.size + 1 ≠ w1.heap.size := by omega
  clear hc1 hf1 hsz hbw hb1 hen
  simp only []
  repeat go_step
  refine bodyPost_ret (v := .tuple #[nodeV n, .nilIface]) (by simp [results, Tryz.results62, go_sem, hq1, nodeV, hlt]; try rfl) rfl ⟨rfl, ?_⟩
  refine Below.alloc ?_ (by simp only [World.size_setCell]; have := HZ.out; omega) _
  repeat (refine below_set ?_ _ _ _ (Nat.le_refl _))
  exact HB.out

theorem eq_held (t : TypeId) (v : Value) (w : World) : (Go.binOp .eql 95 (.iface t v) .nilIface).run Tryz.prog w = .ok (.bool false) w := run_eql_held_nil' t v w

set_option maxHeartbeats 800000 in
theorem wdec_bad (A : Nat → Addr) (B : Nat) (l : List UInt8) (w : World) (hS : Sents A B w) (hp : decN l = none) (hl : l.length ≤ 9223372036854775807) :
    Calls Tryz.prog 62 #[.string (S l)] w fun e w' => ∃ t x, e = .returned (.tuple #[nodeV zeroN, .iface t x]) ∧ Bad A (.iface t x) ∧ Below w.heap.size w w' := by
  have hnn := neq_nil
  have hhd := neq_held
  have heh := eq_held
  have hS0 : ∀ o1 o2, Sents A B ((w.alloc o1).alloc o2) := fun o1 o2 => hS.to (((Below.refl _ w).alloc hS.size _).alloc (by have := hS.size; simp; omega) _)
  have hBs := hS.size
  unfold decN at hp
  cases h : pNode l with
  | none =>
    have hk1 := fun rb w hS hB hc hf => node_bad A B rb l w hS hB h hl hc hf
    clear hp h
    go_enter Tryz.func62, Tryz.ntmps62
    go_wp2_with fail
    refine (hk1 _ _ (hS0 _ _) (by omega) (by simp) (by simp)).mono ?_
    rintro e w1 ⟨t, x, l1, rfl, hbad, hb1⟩
    have hsz : w.heap.size + 2 ≤ w1.heap.size := by have := hb1.size; simp at this; omega
    have hlt : w.heap.size < w1.heap.size := by omega
    obtain ⟨hq1, hq2⟩ := hb1.five2 (by show w.heap.size ≠ w.heap.size + 1; omega)
    have hbw : Below w.heap.size w w1 := (((Below.refl _ w).alloc (Nat.le_refl _) _).alloc (by simp) _).trans (hb1.below (by show w.heap.size ≤ w.heap.size + 1; omega) (by simp; omega))
    unfold nodeV zeroN
    clear hk1
    go_wp2_with fail
    refine (at_bad (A := A) _ _ _ hbad).mono ?_
    rintro e w' ⟨t', x', rfl, hbad', rfl⟩
    have HB : Hid _ := hbw
    have HZ : Hid _ := hsz
    have hsz2 : w.heap.size + 1 ≠ w1.heap.size := by omega
    clear hsz hbw hb1
    simp only []
    repeat go_step
    refine bodyPost_ret (v := .tuple #[nodeV zeroN, .iface t' x']) (by simp [results, Tryz.results62, go_sem, hq1, nodeV, zeroN, hlt]; try rfl) rfl ⟨_, _, rfl, hbad', ?_⟩
    refine Below.alloc ?_ (by simp only [World.size_setCell]; have := HZ.out; omega) _
    repeat (refine below_set ?_ _ _ _ (Nat.le_refl _))
    exact HB.out
  | some y =>
    obtain ⟨n, r⟩ := y
    rw [h] at hp
    cases r with
    | nil => cases hp
    | cons c r =>
      have hk1 := fun rb w hc hf => node_ok A rb l (c :: r) n w h hl hc hf
      have hen : ∀ w : World, (Go.binOp .eql 95 .nilIface .nilIface).run Tryz.prog w = .ok (.bool true) w := fun w => by
        have h : ∀ d : Nat, (Op.equalIn (d + 1) 95 .nilIface .nilIface).run Tryz.prog w = .ok true w := fun d => by simp [Op.equalIn, run_underlying Tryz.underlying95]
        simp only [Go.binOp]
        simp [Op.equal, Op.maxDepth, h 9999]
      clear hp h
      go_enter Tryz.func62, Tryz.ntmps62
      go_wp2_with fail
      refine (hk1 _ _ (by simp) (by simp)).mono ?_
      rintro e w1 ⟨rfl, hb1⟩
      have hc1 := hb1.rest
      have hsz : w.heap.size + 2 ≤ w1.heap.size := by have := hb1.size; simp at this; omega
      have hlt : w.heap.size < w1.heap.size := by omega
      obtain ⟨hq1, hq2⟩ := hb1.five2 (by show w.heap.size ≠ w.heap.size + 1; omega)
      have hbw : Below w.heap.size w w1 := (((Below.refl _ w).alloc (Nat.le_refl _) _).alloc (by simp) _).trans (hb1.below (by show w.heap.size ≤ w.heap.size + 1; omega) (by simp; omega))
      have hS1 : ∀ o, Sents A B (w1.alloc o) := fun o => hS.to ((hbw.mono hBs).alloc (by omega) _)
      unfold nodeV
      clear hk1
      go_wp2_with fail
      refine (end_bad A B _ c r _ (hS1 _) ?_).mono ?_
      · exact (((Below.refl _ w1).alloc (Nat.le_refl _) _).cell (p := ⟨w.heap.size + 1, 0, none⟩) (by show w.heap.size + 1 < w1.heap.size; omega)).trans hc1
      rintro e w2 ⟨t, x, rfl, hbad, rfl⟩
      go_wp2_with fail
      refine (at_bad (A := A) _ _ _ hbad).mono ?_
      rintro e w' ⟨t', x', rfl, hbad', rfl⟩
      have HB : Hid _ := hbw
      have HZ : Hid _ := hsz
      have hsz2 : w.heap.size + 1 ≠ w1.heap.size := by omega
      clear hc1 hsz hbw hb1 hen hS1
      simp only []
      repeat go_step
      refine bodyPost_ret (v := .tuple #[nodeV zeroN, .iface t' x']) (by simp [results, Tryz.results62, go_sem, hq1, nodeV, zeroN, hlt]; try rfl) rfl ⟨_, _, rfl, hbad', ?_⟩
      refine Below.alloc ?_ (by simp only [World.size_setCell]; have := HZ.out; omega) _
      repeat (refine below_set ?_ _ _ _ (Nat.le_refl _))
      exact HB.out

set_option maxHeartbeats 400000 in
theorem dec_ok (A : Nat → Addr) (l : List UInt8) (n : Nd) (w : World) (h : decN l = some n) (hl : l.length ≤ 9223372036854775807) :
    Calls Tryz.prog 20 #[.string (S l)] w fun e w' => e = .returned (.tuple #[nodeV n, .int .i64 0]) ∧ Below w.heap.size w w' := by
  have hk := fun w => wdec_ok A l n w h hl
  clear h
  go_enter Tryz.func20, Tryz.ntmps20
  go_wp2_with fail
  refine (hk _).mono ?_
  rintro e w1 ⟨rfl, hb1⟩
  have hbw : Below w.heap.size w w1 := ((Below.refl _ w).alloc (Nat.le_refl _) _).trans (hb1.mono (by simp))
  have hsz : w.heap.size + 1 ≤ w1.heap.size := by have := hb1.size; simp at this; omega
  have hq1 : w1.cell? ⟨w.heap.size, 0, none⟩ = some (.int .i64 0) ∧ w1.cell? ⟨w.heap.size, 1, none⟩ = some (.string ⟨#[]⟩) ∧ w1.cell? ⟨w.heap.size, 2, none⟩ = some (.string ⟨#[]⟩) ∧ w1.cell? ⟨w.heap.size, 3, none⟩ = some (.int .i64 0) ∧ w1.cell? ⟨w.heap.size, 4, none⟩ = some (.int .i64 0) := by
    refine ⟨?_, ?_, ?_, ?_, ?_⟩ <;> (rw [hb1.cell (by simp)]; simp)
  have hq2 : ∀ o, w1.frozen? ⟨w.heap.size, o, none⟩ = false := fun o => by rw [hb1.frozen (by simp)]; simp
  have hlt : w.heap.size < w1.heap.size := by omega
  unfold nodeV
  go_wp2_with fail
  have HB : Hid _ := hbw
  have HZ : Hid _ := hsz
  clear hb1 hbw hsz
  go_region_with (go_at_call 44; refine (errno_nil _).mono ?_; rintro e w' ⟨rfl, rfl⟩)
  all_goals
    simp only [Exit.then]
    repeat go_step
    refine bodyPost_ret (v := .tuple #[nodeV n, .int .i64 0]) (by simp [results, Tryz.results20, go_sem, hq1, nodeV, hlt]; try rfl) rfl ⟨rfl, ?_⟩
    repeat (first | (with_reducible refine Below.drew ?_) | (with_reducible refine Below.alloc ?_ (by simp only [World.size_setCell]; have := HZ.out; omega) _) | (with_reducible refine below_set ?_ _ _ _ (Nat.le_refl _)))
    exact HB.out

/-- Where the errors of a call end: whatever orders its last statement takes. -/
theorem errno_bad2 (A : Nat → Addr) (B : Nat) (v : Value) (w : World) (hS : Sents A B w) (hv : Bad A v) :
    Calls Tryz.prog 44 #[v] w fun e w' => e = .returned (.int .i64 4) ∧ (∀ b o, b < w.heap.size → w'.cell? ⟨b, o, none⟩ = w.cell? ⟨b, o, none⟩) ∧ (∀ b o, b < w.heap.size → w'.frozen? ⟨b, o, none⟩ = w.frozen? ⟨b, o, none⟩) ∧ w.heap.size ≤ w'.heap.size ∧ Hid (Below w.heap.size w w') :=
  (errno_bad A B v w hS hv).mono fun e w' ⟨he, hb⟩ => ⟨he, (bcell hb).1, (bcell hb).2, hb.size, hb⟩

set_option maxHeartbeats 1000000 in
theorem dec_bad (A : Nat → Addr) (B : Nat) (l : List UInt8) (w : World) (hS : Sents A B w) (h : decN l = none) (hl : l.length ≤ 9223372036854775807) :
    Calls Tryz.prog 20 #[.string (S l)] w fun e w' => e = .returned (.tuple #[nodeV zeroN, .int .i64 4]) ∧ Below w.heap.size w w' := by
  have hBs := hS.size
  have hk := fun w hS => wdec_bad A B l w hS h hl
  have hS0 : ∀ o, Sents A B (w.alloc o) := fun o => hS.to ((Below.refl _ w).alloc hBs _)
  clear h
  go_enter Tryz.func20, Tryz.ntmps20
  go_wp2_with fail
  refine (hk _ (hS0 _)).mono ?_
  rintro e w1 ⟨t, x, rfl, hbad, hb1⟩
  have hbw : Below w.heap.size w w1 := ((Below.refl _ w).alloc (Nat.le_refl _) _).trans (hb1.mono (by simp))
  have hsz : w.heap.size + 1 ≤ w1.heap.size := by have := hb1.size; simp at this; omega
  have hS1 : ∀ o, Sents A B ((w1.alloc o).drew) := fun o => hS.to ((hbw.mono hBs).alloc (by omega) _).drew
  have hS2 : ∀ o, Sents A B (w1.alloc o) := fun o => hS.to ((hbw.mono hBs).alloc (by omega) _)
  have hq1 : w1.cell? ⟨w.heap.size, 0, none⟩ = some (.int .i64 0) ∧ w1.cell? ⟨w.heap.size, 1, none⟩ = some (.string ⟨#[]⟩) ∧ w1.cell? ⟨w.heap.size, 2, none⟩ = some (.string ⟨#[]⟩) ∧ w1.cell? ⟨w.heap.size, 3, none⟩ = some (.int .i64 0) ∧ w1.cell? ⟨w.heap.size, 4, none⟩ = some (.int .i64 0) := by
    refine ⟨?_, ?_, ?_, ?_, ?_⟩ <;> (rw [hb1.cell (by simp)]; simp)
  have hq2 : ∀ o, w1.frozen? ⟨w.heap.size, o, none⟩ = false := fun o => by rw [hb1.frozen (by simp)]; simp
  have hlt : w.heap.size < w1.heap.size := by omega
  unfold nodeV zeroN
  go_wp2_with fail
  have HB : Hid _ := hbw
  have HZ : Hid _ := hsz
  clear hb1 hbw hsz
  have hS3 : ∀ (W : World) (o : Obj), (W = w1.alloc o ∨ W = (w1.alloc o).drew) → Sents A B W := fun W o e => by
    rcases e with rfl | rfl
    · exact hS2 o
    · exact hS1 o
  clear hS1 hS2
  go_region_with (go_at_call 44; refine (errno_bad2 A B _ _ (by first | exact hS3 _ _ (Or.inl rfl) | exact hS3 _ _ (Or.inr rfl)) hbad).mono ?_; rintro e w2 ⟨rfl, hcc, hcf, hz2, hb2⟩)
  all_goals
    have h2 : w2.cell? ⟨w.heap.size, 0, none⟩ = some (.int .i64 0) ∧ w2.cell? ⟨w.heap.size, 1, none⟩ = some (.string ⟨#[]⟩) ∧ w2.cell? ⟨w.heap.size, 2, none⟩ = some (.string ⟨#[]⟩) ∧ w2.cell? ⟨w.heap.size, 3, none⟩ = some (.int .i64 0) ∧ w2.cell? ⟨w.heap.size, 4, none⟩ = some (.int .i64 0) := by
      refine ⟨?_, ?_, ?_, ?_, ?_⟩ <;> (rw [hcc _ _ (by simp; omega)]; simp [hlt, hq1, World.cell?_alloc_past])
    simp only [Exit.then]
    repeat go_step
    refine bodyPost_ret (v := .tuple #[nodeV zeroN, .int .i64 4]) (by simp [results, Tryz.results20, go_sem, h2, nodeV, zeroN, hlt]; try rfl) rfl ⟨rfl, ?_⟩
    have hbz : Below w.heap.size w w2 := by
      refine Below.trans ?_ (hb2.out.mono (by simp; have := HZ.out; omega))
      repeat (first | (with_reducible refine Below.drew ?_) | (with_reducible refine Below.alloc ?_ (by have := HZ.out; omega) _))
      exact HB.out
    repeat (first | (with_reducible refine Below.drew ?_) | (with_reducible refine below_set ?_ _ _ _ (Nat.le_refl _)))
    exact hbz
end Go.Proofs.YtddcbeeldjjmeaaGreatDoor.Tw
