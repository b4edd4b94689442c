/- DecodeProof: the program's. -/
import Derived.Test.YtddcbeeldjjmeaaGreatDoorDecP3
namespace Go.Proofs.YtddcbeeldjjmeaaGreatDoor.Tw
open Go.RowKit Go.Proofs.YtddcbeeldjjmeaaGreatDoor.Pu Go.Deep
set_option linter.unusedVariables false
set_option linter.unusedSimpArgs false

theorem UBlk.alloc {w : World} {g n : Nat} {F : Nat → Us} (h : UBlk w g n F) (o : Obj) : UBlk (w.alloc o) g n F := h.keep (Below.heap_alloc _ _ _ h.lt)
theorem UBlk.drew {w : World} {g n : Nat} {F : Nat → Us} (h : UBlk w g n F) : UBlk w.drew g n F := h
theorem decP_pP (l : List UInt8) (p : Pf) (hp : decP l = some p) : pP l = some (p, []) := by
  unfold decP at hp
  cases h : pP l with
  | none => rw [h] at hp; cases hp
  | some x =>
    obtain ⟨n, r⟩ := x
    rw [h] at hp
    cases r with
    | nil => simp only [Option.some.injEq] at hp; rw [hp]
    | cons c r => cases hp
theorem eq_nilsP (w : World) : (Go.binOp .eql 95 .nilIface .nilIface).run Tryz.prog w = .ok (.bool true) w := by
  have h : ∀ d : Nat, (Op.equalIn (d + 1) 95 .nilIface .nilIface).run Tryz.prog w = .ok true w := fun d => by simp [Op.equalIn, run_underlying Tryz.underlying95]
  simp only [Go.binOp]
  simp [Op.equal, Op.maxDepth, h 9999]
/-- The six cells of a struct that lies two blocks back. -/
theorem Adv.six2 {a : Addr} {l : List UInt8} {w w1 : World} {c0 c1 c2 c3 c4 c5 : Value} {t : TypeId} {o : Obj} (h : Adv a l ((w.alloc (.cells #[c0, c1, c2, c3, c4, c5] t)).alloc o) w1) (hn : w.heap.size ≠ a.block) :
    (w1.cell? ⟨w.heap.size, 0, none⟩ = some c0 ∧ w1.cell? ⟨w.heap.size, 1, none⟩ = some c1 ∧ w1.cell? ⟨w.heap.size, 2, none⟩ = some c2 ∧ w1.cell? ⟨w.heap.size, 3, none⟩ = some c3 ∧ w1.cell? ⟨w.heap.size, 4, none⟩ = some c4 ∧ w1.cell? ⟨w.heap.size, 5, none⟩ = some c5) ∧
    ∀ o, w1.frozen? ⟨w.heap.size, o, none⟩ = false := by
  obtain ⟨h1, h2⟩ := h.cells w.heap.size (by simp; omega) hn
  refine ⟨⟨?_, ?_, ?_, ?_, ?_, ?_⟩, ?_⟩
  · rw [h1]; simp
  · rw [h1]; simp
  · rw [h1]; simp
  · rw [h1]; simp
  · rw [h1]; simp
  · rw [h1]; simp
  · intro o; rw [h2]; simp

/-- A proof that came out, as the program's value: its steps lie in block g. -/
def outP (p : Pf) (g : Nat) : Value := .agg #[.int .i64 p.bottom.kind, .string (S p.bottom.path), .string (S p.bottom.value), .int .i64 p.bottom.left, .int .i64 p.bottom.right, .slice (some ⟨g, 0, none⟩) p.ups.length p.ups.length]

set_option maxHeartbeats 1000000 in
theorem wdecP_ok (A : Nat → Addr) (l : List UInt8) (p : Pf) (w : World) (hp : decP l = some p) (hl : l.length ≤ 9223372036854775807) :
    Calls Tryz.prog 51 #[.string (S l)] w fun e w' => ∃ g F, e = .returned (.tuple #[outP p g, .nilIface]) ∧ w.heap.size ≤ g ∧ UBlk w' g p.ups.length F ∧ (∀ i (h : i < p.ups.length), F i = p.ups[i]) ∧ Below w.heap.size w w' := by
  have hnn := neq_nil
  have hk1 := fun rb w hc hf => prf_ok A rb l [] p.bottom p.ups w (decP_pP l p hp) hl hc hf
  have hen := eq_nilsP
  clear hp
  unfold outP
  go_enter Tryz.func51, Tryz.ntmps51
  go_wp2_with fail
  refine (hk1 _ _ (by simp) (by simp)).mono ?_
  rintro e w1 ⟨g, F, rfl, hg, hrow, hF, hb1⟩
  have hc1 := hb1.rest
  have hf1 := hb1.mark
  have hg2 : w.heap.size + 2 ≤ g := by simpa using hg
  have hgl := hrow.lt
  have hsz : w.heap.size + 2 ≤ w1.heap.size := by omega
  have hlt : w.heap.size < w1.heap.size := by omega
  obtain ⟨hq1, hq2⟩ := hb1.six2 (by show w.heap.size ≠ w.heap.size + 1; omega)
  have hbw : Below w.heap.size w w1 := (((Below.refl _ w).alloc (Nat.le_refl _) _).alloc (by simp) _).trans (hb1.below (by show w.heap.size ≤ w.heap.size + 1; omega) (by simp; omega))
  clear hk1
  go_wp2_with fail
  refine (end_ok _ _ ?_).mono ?_
  · exact (((Below.refl _ w1).alloc (Nat.le_refl _) _).cell (p := ⟨w.heap.size + 1, 0, none⟩) (by show w.heap.size + 1 < w1.heap.size; omega)).trans hc1
  rintro e w2 ⟨rfl, rfl⟩
  have HB : Hid _ := hbw
  have HZ : Hid _ := hsz
  have HR : Hid _ := hrow
  have HG : Hid _ := hg2
  have HF : Hid _ := hF
  have hsz2 : w.heap.size + 1 ≠ w1.heap.size := by omega
  clear hc1 hf1 hsz hbw hb1 hen hrow hg hg2 hgl hF
  simp only []
  repeat go_step
  refine bodyPost_ret (v := .tuple #[.agg #[.int .i64 p.bottom.kind, .string (S p.bottom.path), .string (S p.bottom.value), .int .i64 p.bottom.left, .int .i64 p.bottom.right, .slice (some ⟨g, 0, none⟩) p.ups.length p.ups.length], .nilIface]) (by simp [results, Tryz.results51, go_sem, hq1, hlt]; try rfl) rfl ⟨g, F, rfl, by have := HG.out; omega, ?_, HF.out, ?_⟩
  · refine UBlk.alloc ?_ _
    repeat (refine UBlk.setO ?_ _ _ _ (by have := HG.out; omega))
    exact HR.out
  · refine Below.alloc ?_ (by simp only [World.size_setCell]; have := HZ.out; omega) _
    repeat (refine below_set ?_ _ _ _ (Nat.le_refl _))
    exact HB.out

set_option maxHeartbeats 1000000 in
theorem wdecP_bad (A : Nat → Addr) (B : Nat) (l : List UInt8) (w : World) (hS : Sents A B w) (hT : Tab w) (hTB : 23 < B) (hp : decP l = none) (hl : l.length ≤ 9223372036854775807) :
    Calls Tryz.prog 51 #[.string (S l)] w fun e w' => ∃ t x, e = .returned (.tuple #[zeroPV, .iface t x]) ∧ Bad A (.iface t x) ∧ Below w.heap.size w w' := by
  have hnn := neq_nil
  have hhd := neq_held
  have heh := eq_held
  have hS0 : ∀ o1 o2, Sents A B ((w.alloc o1).alloc o2) := fun o1 o2 => hS.to (((Below.refl _ w).alloc hS.size _).alloc (by have := hS.size; simp; omega) _)
  have hT0 : ∀ o1 o2, Tab ((w.alloc o1).alloc o2) := fun o1 o2 => hT.to (B := B) (((Below.refl _ w).alloc hS.size _).alloc (by have := hS.size; simp; omega) _) hTB
  have hBs := hS.size
  unfold decP at hp
  unfold zeroPV
  cases h : pP l with
  | none =>
    have hk1 := fun rb w hS hT hB hc hf => prf_bad A B rb l w hS hT hTB hB h hl hc hf
    unfold zeroPV at hk1
    clear hp h
    go_enter Tryz.func51, Tryz.ntmps51
    go_wp2_with fail
    refine (hk1 _ _ (hS0 _ _) (hT0 _ _) (by omega) (by simp) (by simp)).mono ?_
    rintro e w1 ⟨t, x, l1, rfl, hbad, hb1⟩
    have hsz : w.heap.size + 2 ≤ w1.heap.size := by have := hb1.size; simp at this; omega
    have hlt : w.heap.size < w1.heap.size := by omega
    obtain ⟨hq1, hq2⟩ := hb1.six2 (by show w.heap.size ≠ w.heap.size + 1; omega)
    have hbw : Below w.heap.size w w1 := (((Below.refl _ w).alloc (Nat.le_refl _) _).alloc (by simp) _).trans (hb1.below (by show w.heap.size ≤ w.heap.size + 1; omega) (by simp; omega))
    clear hk1
    go_wp2_with fail
    refine (at_bad (A := A) _ _ _ hbad).mono ?_
    rintro e w' ⟨t', x', rfl, hbad', rfl⟩
    have HB : Hid _ := hbw
    have HZ : Hid _ := hsz
    have hsz2 : w.heap.size + 1 ≠ w1.heap.size := by omega
    clear hsz hbw hb1
    simp only []
    repeat go_step
    refine bodyPost_ret (v := .tuple #[.agg #[.int .i64 0, .string (S []), .string (S []), .int .i64 0, .int .i64 0, .slice none 0 0], .iface t' x']) (by simp [results, Tryz.results51, go_sem, hq1, hlt]; try rfl) rfl ⟨_, _, rfl, hbad', ?_⟩
    refine Below.alloc ?_ (by simp only [World.size_setCell]; have := HZ.out; omega) _
    repeat (refine below_set ?_ _ _ _ (Nat.le_refl _))
    exact HB.out
  | some y =>
    obtain ⟨p, r⟩ := y
    rw [h] at hp
    cases r with
    | nil => cases hp
    | cons c r =>
      have hk1 := fun rb w hc hf => prf_ok A rb l (c :: r) p.bottom p.ups w h hl hc hf
      have hen := eq_nilsP
      clear hp h
      go_enter Tryz.func51, Tryz.ntmps51
      go_wp2_with fail
      refine (hk1 _ _ (by simp) (by simp)).mono ?_
      rintro e w1 ⟨g, F, rfl, hg, hrow, hF, hb1⟩
      have hc1 := hb1.rest
      have hsz : w.heap.size + 2 ≤ w1.heap.size := by have := hb1.size; simp at this; omega
      have hlt : w.heap.size < w1.heap.size := by omega
      obtain ⟨hq1, hq2⟩ := hb1.six2 (by show w.heap.size ≠ w.heap.size + 1; omega)
      have hbw : Below w.heap.size w w1 := (((Below.refl _ w).alloc (Nat.le_refl _) _).alloc (by simp) _).trans (hb1.below (by show w.heap.size ≤ w.heap.size + 1; omega) (by simp; omega))
      have hS1 : ∀ o, Sents A B (w1.alloc o) := fun o => hS.to ((hbw.mono hBs).alloc (by omega) _)
      clear hk1 hrow hg hF
      go_wp2_with fail
      refine (end_bad A B _ c r _ (hS1 _) ?_).mono ?_
      · exact (((Below.refl _ w1).alloc (Nat.le_refl _) _).cell (p := ⟨w.heap.size + 1, 0, none⟩) (by show w.heap.size + 1 < w1.heap.size; omega)).trans hc1
      rintro e w2 ⟨t, x, rfl, hbad, rfl⟩
      go_wp2_with fail
      refine (at_bad (A := A) _ _ _ hbad).mono ?_
      rintro e w' ⟨t', x', rfl, hbad', rfl⟩
      have HB : Hid _ := hbw
      have HZ : Hid _ := hsz
      have hsz2 : w.heap.size + 1 ≠ w1.heap.size := by omega
      clear hc1 hsz hbw hb1 hen hS1
      simp only []
      repeat go_step
      refine bodyPost_ret (v := .tuple #[.agg #[.int .i64 0, .string (S []), .string (S []), .int .i64 0, .int .i64 0, .slice none 0 0], .iface t' x']) (by simp [results, Tryz.results51, go_sem, hq1, hlt]; try rfl) rfl ⟨_, _, rfl, hbad', ?_⟩
      refine Below.alloc ?_ (by simp only [World.size_setCell]; have := HZ.out; omega) _
      repeat (refine below_set ?_ _ _ _ (Nat.le_refl _))
      exact HB.out

set_option maxHeartbeats 1000000 in
theorem tdecP_ok (A : Nat → Addr) (l : List UInt8) (p : Pf) (w : World) (h : decP l = some p) (hl : l.length ≤ 9223372036854775807) :
    Calls Tryz.prog 14 #[.string (S l)] w fun e w' => ∃ g F, e = .returned (.tuple #[outP p g, .int .i64 0]) ∧ w.heap.size ≤ g ∧ UBlk w' g p.ups.length F ∧ (∀ i (h : i < p.ups.length), F i = p.ups[i]) ∧ Below w.heap.size w w' := by
  have hk := fun w => wdecP_ok A l p w h hl
  clear h
  unfold outP at hk ⊢
  go_enter Tryz.func14, Tryz.ntmps14
  go_wp2_with fail
  refine (hk _).mono ?_
  rintro e w1 ⟨g, F, rfl, hg, hrow, hF, hb1⟩
  have hbw : Below w.heap.size w w1 := ((Below.refl _ w).alloc (Nat.le_refl _) _).trans (hb1.mono (by simp))
  have hg1 : w.heap.size + 1 ≤ g := by simpa using hg
  have hsz : w.heap.size + 1 ≤ w1.heap.size := by have := hrow.lt; omega
  have hq1 : w1.cell? ⟨w.heap.size, 0, none⟩ = some (.int .i64 0) ∧ w1.cell? ⟨w.heap.size, 1, none⟩ = some (.string ⟨#[]⟩) ∧ w1.cell? ⟨w.heap.size, 2, none⟩ = some (.string ⟨#[]⟩) ∧ w1.cell? ⟨w.heap.size, 3, none⟩ = some (.int .i64 0) ∧ w1.cell? ⟨w.heap.size, 4, none⟩ = some (.int .i64 0) ∧ w1.cell? ⟨w.heap.size, 5, none⟩ = some (.slice none 0 0) := by
    refine ⟨?_, ?_, ?_, ?_, ?_, ?_⟩ <;> (rw [hb1.cell (by simp)]; simp)
  have hq2 : ∀ o, w1.frozen? ⟨w.heap.size, o, none⟩ = false := fun o => by rw [hb1.frozen (by simp)]; simp
  have hlt : w.heap.size < w1.heap.size := by omega
  have HB : Hid _ := hbw
  have HZ : Hid _ := hsz
  have HR : Hid _ := hrow
  have HG : Hid _ := hg1
  have HF : Hid _ := hF
  clear hb1 hbw hsz hrow hg1 hg hF
  go_wp2_with fail
  go_region_with (go_at_call 44; refine (errno_nil _).mono ?_; rintro e w' ⟨rfl, rfl⟩)
  all_goals
    simp only [Exit.then]
    repeat go_step
    refine bodyPost_ret (v := .tuple #[.agg #[.int .i64 p.bottom.kind, .string (S p.bottom.path), .string (S p.bottom.value), .int .i64 p.bottom.left, .int .i64 p.bottom.right, .slice (some ⟨g, 0, none⟩) p.ups.length p.ups.length], .int .i64 0]) (by simp [results, Tryz.results14, go_sem, hq1, hlt]; try rfl) rfl ⟨g, F, rfl, by have := HG.out; omega, ?_, HF.out, ?_⟩
    · repeat (first | (with_reducible refine UBlk.drew ?_) | (with_reducible refine UBlk.alloc ?_ _) | (with_reducible refine UBlk.setO ?_ _ _ _ (by have := HG.out; omega)))
      exact HR.out
    · repeat (first | (with_reducible refine Below.drew ?_) | (with_reducible refine Below.alloc ?_ (by simp only [World.size_setCell]; have := HZ.out; omega) _) | (with_reducible refine below_set ?_ _ _ _ (Nat.le_refl _)))
      exact HB.out

set_option maxHeartbeats 1000000 in
theorem tdecP_bad (A : Nat → Addr) (B : Nat) (l : List UInt8) (w : World) (hS : Sents A B w) (hT : Tab w) (hTB : 23 < B) (h : decP l = none) (hl : l.length ≤ 9223372036854775807) :
    Calls Tryz.prog 14 #[.string (S l)] w fun e w' => e = .returned (.tuple #[zeroPV, .int .i64 4]) ∧ Below w.heap.size w w' := by
  have hBs := hS.size
  have hk := fun w hS hT => wdecP_bad A B l w hS hT hTB h hl
  have hS0 : ∀ o, Sents A B (w.alloc o) := fun o => hS.to ((Below.refl _ w).alloc hBs _)
  have hT0 : ∀ o, Tab (w.alloc o) := fun o => hT.to (B := B) ((Below.refl _ w).alloc hBs _) hTB
  clear h
  unfold zeroPV at hk ⊢
  go_enter Tryz.func14, Tryz.ntmps14
  go_wp2_with fail
  refine (hk _ (hS0 _) (hT0 _)).mono ?_
  rintro e w1 ⟨t, x, rfl, hbad, hb1⟩
  have hbw : Below w.heap.size w w1 := ((Below.refl _ w).alloc (Nat.le_refl _) _).trans (hb1.mono (by simp))
  have hsz : w.heap.size + 1 ≤ w1.heap.size := by have := hb1.size; simp at this; omega
  have hS1 : ∀ o, Sents A B ((w1.alloc o).drew) := fun o => hS.to ((hbw.mono hBs).alloc (by omega) _).drew
  have hS2 : ∀ o, Sents A B (w1.alloc o) := fun o => hS.to ((hbw.mono hBs).alloc (by omega) _)
  have hq1 : w1.cell? ⟨w.heap.size, 0, none⟩ = some (.int .i64 0) ∧ w1.cell? ⟨w.heap.size, 1, none⟩ = some (.string ⟨#[]⟩) ∧ w1.cell? ⟨w.heap.size, 2, none⟩ = some (.string ⟨#[]⟩) ∧ w1.cell? ⟨w.heap.size, 3, none⟩ = some (.int .i64 0) ∧ w1.cell? ⟨w.heap.size, 4, none⟩ = some (.int .i64 0) ∧ w1.cell? ⟨w.heap.size, 5, none⟩ = some (.slice none 0 0) := by
    refine ⟨?_, ?_, ?_, ?_, ?_, ?_⟩ <;> (rw [hb1.cell (by simp)]; simp)
  have hq2 : ∀ o, w1.frozen? ⟨w.heap.size, o, none⟩ = false := fun o => by rw [hb1.frozen (by simp)]; simp
  have hlt : w.heap.size < w1.heap.size := by omega
  go_wp2_with fail
  have HB : Hid _ := hbw
  have HZ : Hid _ := hsz
  clear hb1 hbw hsz
  have hS3 : ∀ (W : World) (o : Obj), (W = w1.alloc o ∨ W = (w1.alloc o).drew) → Sents A B W := fun W o e => by
    rcases e with rfl | rfl
    · exact hS2 o
    · exact hS1 o
  clear hS1 hS2
  go_region_with (go_at_call 44; refine (errno_bad2 A B _ _ (by first | exact hS3 _ _ (Or.inl rfl) | exact hS3 _ _ (Or.inr rfl)) hbad).mono ?_; rintro e w2 ⟨rfl, hcc, hcf, hz2, hb2⟩)
  all_goals
    have h2 : w2.cell? ⟨w.heap.size, 0, none⟩ = some (.int .i64 0) ∧ w2.cell? ⟨w.heap.size, 1, none⟩ = some (.string ⟨#[]⟩) ∧ w2.cell? ⟨w.heap.size, 2, none⟩ = some (.string ⟨#[]⟩) ∧ w2.cell? ⟨w.heap.size, 3, none⟩ = some (.int .i64 0) ∧ w2.cell? ⟨w.heap.size, 4, none⟩ = some (.int .i64 0) ∧ w2.cell? ⟨w.heap.size, 5, none⟩ = some (.slice none 0 0) := by
      refine ⟨?_, ?_, ?_, ?_, ?_, ?_⟩ <;> (rw [hcc _ _ (by simp; omega)]; simp [hlt, hq1, World.cell?_alloc_past])
    simp only [Exit.then]
    repeat go_step
    refine bodyPost_ret (v := .tuple #[.agg #[.int .i64 0, .string (S []), .string (S []), .int .i64 0, .int .i64 0, .slice none 0 0], .int .i64 4]) (by simp [results, Tryz.results14, go_sem, h2, hlt]; try rfl) rfl ⟨rfl, ?_⟩
    have hbz : Below w.heap.size w w2 := by
      refine Below.trans ?_ (hb2.out.mono (by simp; have := HZ.out; omega))
      repeat (first | (with_reducible refine Below.drew ?_) | (with_reducible refine Below.alloc ?_ (by have := HZ.out; omega) _))
      exact HB.out
    repeat (first | (with_reducible refine Below.drew ?_) | (with_reducible refine below_set ?_ _ _ _ (Nat.le_refl _)))
    exact hbz
end Go.Proofs.YtddcbeeldjjmeaaGreatDoor.Tw
