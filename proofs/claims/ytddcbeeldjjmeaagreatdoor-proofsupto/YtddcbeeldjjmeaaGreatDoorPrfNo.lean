/- Proofs that have no bytes: the program's check, and its answer. -/
import Derived.Test.YtddcbeeldjjmeaaGreatDoorPrf3
namespace Go.Proofs.YtddcbeeldjjmeaaGreatDoor.Tw
open Go.RowKit Go.Proofs.YtddcbeeldjjmeaaGreatDoor.Pu
set_option linter.unusedVariables false
set_option linter.unusedSimpArgs false

set_option maxRecDepth 20000 in
set_option maxHeartbeats 1000000 in
theorem checkP_bot (A : Nat → Addr) (B : Nat) (m : Nd) (v : Value) (w : World) (hS : Sents A B w) (hn : encN m = none) (hpl : m.path.length ≤ 9223372036854775807) :
    Calls Tryz.prog 99 #[.agg #[.int .i64 m.kind, .string (S m.path), .string (S m.value), .int .i64 m.left, .int .i64 m.right, v]] w fun e w' => ∃ t x, e = .returned (.iface t x) ∧ NoB A (.iface t x) ∧ Below w.heap.size w w' := by
  have hk1 := fun w hS => check_no A B m w hS hn hpl
  have hhd := neq_held
  have hS1 := fun o => hS.to ((Below.refl _ w).alloc hS.size o)
  unfold nodeV at hk1
  clear hn hpl hS
  go_enter Tryz.func99, Tryz.ntmps99
  go_wp2_with fail
  refine (hk1 _ (hS1 _)).mono ?_
  rintro e w1 ⟨t, x, rfl, hno, hb1⟩
  have hbx := ((Below.refl _ w).alloc (Nat.le_refl _) _).trans (hb1.mono (by simp))
  clear hb1 hk1 hS1
  go_wp2_with fail
  refine (at_nob (A := A) _ _ _ hno).mono ?_
  rintro e w' ⟨t', x', rfl, hno', rfl⟩
  go_wp2_with fail
  refine (at_nob (A := A) _ _ _ hno').mono ?_
  rintro e w' ⟨t'', x'', rfl, hno'', rfl⟩
  go_wp2
  go_ret
  exact ⟨_, _, rfl, hno'', hbx⟩

set_option maxRecDepth 20000 in
set_option maxHeartbeats 1000000 in
theorem checkP_many (A : Nat → Addr) (B : Nat) (m : Nd) (b : List UInt8) (p : Option Addr) (n cap : Nat) (w : World) (hS : Sents A B w) (hn : encN m = some b) (hl : 37 < n) :
    Calls Tryz.prog 99 #[.agg #[.int .i64 m.kind, .string (S m.path), .string (S m.value), .int .i64 m.left, .int .i64 m.right, .slice p n cap]] w fun e w' => ∃ t x, e = .returned (.iface t x) ∧ NoB A (.iface t x) ∧ Below w.heap.size w w' := by
  have hnn := neq_nil
  have hk1 := fun w => check_ok m b w hn
  have hk2 := fun w => steps_bound (n : Int) false w (by simp; omega)
  have hnob : NoB A (.iface 423 (.pointer (some (A 0)))) := NoB.base
  have hBs := hS.size
  have hq0 := C6.new w (.int .i64 m.kind) (.string (S m.path)) (.string (S m.value)) (.int .i64 m.left) (.int .i64 m.right) (.slice p n cap) 26
  have hb0 := (Below.refl w.heap.size w).alloc (Nat.le_refl _) (.cells #[.int .i64 m.kind, .string (S m.path), .string (S m.value), .int .i64 m.left, .int .i64 m.right, .slice p n cap] 26)
  clear hn
  unfold nodeV at hk1
  go_enter Tryz.func99, Tryz.ntmps99
  go_wp2_with fail
  refine (hk1 _).mono ?_
  rintro e w1 ⟨rfl, hb1⟩
  have hq1 := hq0.below hb1 (by simp)
  have hbx := hb0.trans (hb1.mono (by simp))
  have hvr := (hS.to (hbx.mono hBs)).all.1
  clear hb1 hb0 hq0 hk1
  obtain ⟨q0, q1, q2, q3, q4, q5⟩ := hq1
  go_wp2_with fail
  refine (hk2 _).mono ?_
  rintro e w' ⟨rfl, rfl⟩
  go_wp2_with fail
  refine (at_nob (A := A) _ _ _ hnob).mono ?_
  rintro e w' ⟨t', x', rfl, hno', rfl⟩
  go_wp2
  go_ret
  exact ⟨_, _, rfl, hno', hbx⟩

set_option maxRecDepth 20000 in
set_option maxHeartbeats 4000000 in
theorem checkP_step (A : Nat → Addr) (B : Nat) (m : Nd) (us : List Us) (v : Value) (b : List UInt8) (w : World) (hS : Sents A B w) (hT : Tab w) (hv : URow w v us) (hn : encN m = some b) (hl : us.length ≤ 37) (hpl : ∀ u, u ∈ us → u.path.length ≤ 9223372036854775807) (h : ¬ ∀ u, u ∈ us → okU u = true) :
    Calls Tryz.prog 99 #[.agg #[.int .i64 m.kind, .string (S m.path), .string (S m.value), .int .i64 m.left, .int .i64 m.right, v]] w fun e w' => ∃ t x, e = .returned (.iface t x) ∧ NoB A (.iface t x) ∧ Below w.heap.size w w' := by
  have hnn := neq_nil
  have hhd := neq_held
  have hk1 := fun w => check_ok m b w hn
  have hk2 := fun w => steps_bound (us.length : Int) true w (by simp; omega)
  have hTl := hT.lt
  have hBs := hS.size
  obtain ⟨p, cap, rfl, hc⟩ := hv
  have hq0 := C6.new w (.int .i64 m.kind) (.string (S m.path)) (.string (S m.value)) (.int .i64 m.left) (.int .i64 m.right) (.slice p us.length cap) 26
  have hb0 := (Below.refl w.heap.size w).alloc (Nat.le_refl _) (.cells #[.int .i64 m.kind, .string (S m.path), .string (S m.value), .int .i64 m.left, .int .i64 m.right, .slice p us.length cap] 26)
  have HN : Hid _ := h
  have HP : Hid _ := hpl
  clear h hn hpl
  unfold nodeV at hk1
  go_enter Tryz.func99, Tryz.ntmps99
  go_wp2_with fail
  refine (hk1 _).mono ?_
  rintro e w1 ⟨rfl, hb1⟩
  have hq1 := hq0.below hb1 (by simp)
  have hbx := hb0.trans (hb1.mono (by simp))
  clear hb1 hb0 hq0 hk1
  have hq1' := hq1
  obtain ⟨q0, q1, q2, q3, q4, q5⟩ := hq1'
  go_wp2_with fail
  refine (hk2 _).mono ?_
  rintro e w' ⟨rfl, rfl⟩
  go_wp2_with fail
  clear hk2 q0 q1 q2 q3 q4 q5
  go_loopw [4, 5, 6, 25] (fun _ _ _ i wr => ∃ j : Nat, j ≤ us.length ∧ i = .int .i64 j ∧ Below w.heap.size w wr ∧ Hid (∀ (i : Nat) (h : i < us.length), i < j → okU us[i] = true)) (fun _ _ _ i _ => (us.length - intOf i).toNat)
  case atStart => exact ⟨0, by omega, rfl, hbx, fun i _ hi => absurd hi (Nat.not_lt_zero i)⟩
  case round =>
    obtain ⟨j, hj, rfl, hb, hok⟩ := hrel
    by_cases hjn : j < us.length
    · obtain ⟨a, rfl, hcell0, hcell1, hcell2⟩ := hc j hjn
      have hcw0 : wr.cell? (a.add (j * 3)) = some (.int .i64 us[j].side) := by rw [hb.cell (cell_lt hcell0)]; exact hcell0
      have hcw1 : wr.cell? ⟨(a.add (j * 3)).block, (a.add (j * 3)).off + 1, none⟩ = some (.string (S us[j].path)) := by rw [hb.cell (cell_lt hcell1)]; exact hcell1
      have hcw2 : wr.cell? ⟨(a.add (j * 3)).block, (a.add (j * 3)).off + 2, none⟩ = some (.int .i64 us[j].other) := by rw [hb.cell (cell_lt hcell2)]; exact hcell2
      have hpu := HP.out us[j] (List.getElem_mem hjn)
      have HX : Hid (okU us[j] = true → ∀ (i : Nat) (h : i < us.length), i < j + 1 → okU us[i] = true) := fun hd i hi hij => by
        by_cases e : i = j
        · subst e; exact hd
        · exact hok.out i hi (by omega)
      generalize us[j] = u at hcw0 hcw1 hcw2 hpu HX
      have hbn := (Below.refl wr.heap.size wr).alloc (Nat.le_refl _) (.cells #[.int .i64 u.side, .string (S u.path), .int .i64 u.other] 28)
      cases hd : okU u with
      | true =>
        have hk5 := fun w => checkUp_ok u w hpu hd
        have HD : Hid _ := hd
        unfold upV at hk5
        clear hcell0 hcell1 hcell2 hc hd hpu
        go_wp2_with fail
        refine (hk5 _).mono ?_
        rintro e w5 ⟨rfl, hb5⟩
        have hbr := hbn.trans (hb5.mono (by simp))
        have hb55 := hb.trans (hbr.mono hb.size)
        clear hbn hb5 hk5 hbr hb hcw0 hcw1 hcw2
        go_wp2_with fail
        go_roundw
        case rel => exact ⟨j + 1, by omega, by go_num, hb55, HX.out HD.out⟩
        case measure => simp [intOf]; omega
      | false =>
        have hk5 := fun w hS => checkUp_no A B u w hS hpu hd
        have hSn := hS.to ((hb.trans (hbn.mono hb.size)).mono hBs)
        unfold upV at hk5
        clear hcell0 hcell1 hcell2 hc hd hpu HN HP HX hok
        go_wp2_with fail
        refine (hk5 _ hSn).mono ?_
        rintro e w5 ⟨t, x, rfl, hno, hb5⟩
        have hbr := hbn.trans (hb5.mono (by simp))
        have hb55 := hb.trans (hbr.mono hb.size)
        have hT5 := hT.to hb55 hTl
        clear hbn hb5 hk5 hbr hb hcw0 hcw1 hcw2 hSn hS
        have hki := fun w hT => itoa_any (j : Int) w hT (by omega) (by omega)
        go_wp2_with fail
        refine (hki _ hT5).mono ?_
        rintro e w2 ⟨s, rfl, hs, hB2⟩
        have hss := catI { data := #[115, 116, 101, 112, 32] } s (by show 5 ≤ _; decide) (by omega)
        have hb2 := hb55.trans (hB2.mono (by have := hb55.size; omega))
        clear hB2 hki
        go_wp2_with fail
        refine (at_nob (A := A) _ _ _ hno).mono ?_
        rintro e w' ⟨t', x', rfl, hbad', rfl⟩
        go_wp2
        go_ret
        exact ⟨_, _, rfl, hbad', hb2⟩
    · obtain rfl : j = us.length := by omega
      exfalso
      refine HN.out fun d hd => ?_
      obtain ⟨i, hi, rfl⟩ := List.mem_iff_getElem.1 hd
      exact hok.out i hi hi

/-- What is answered when a proof is to be written. -/
def encPB (p : Pf) : List UInt8 := match encP p with | some b => b | none => []
def encPE (p : Pf) : Int := match encP p with | some _ => 0 | none => 3

theorem checkP_no (A : Nat → Addr) (B : Nat) (p : Pf) (v : Value) (w : World) (hS : Sents A B w) (hT : Tab w) (hv : URow w v p.ups) (hp0 : p.bottom.path.length ≤ 9223372036854775807) (hpl : ∀ u, u ∈ p.ups → u.path.length ≤ 9223372036854775807) (h : encP p = none) :
    Calls Tryz.prog 99 #[prfV p v] w fun e w' => ∃ t x, e = .returned (.iface t x) ∧ NoB A (.iface t x) ∧ Below w.heap.size w w' := by
  obtain ⟨m, us⟩ := p
  unfold prfV
  simp only at hv hp0 hpl ⊢
  unfold encP at h
  simp only at h
  cases hn : encN m with
  | none => exact checkP_bot A B m v w hS hn hp0
  | some b =>
    rw [hn] at h
    simp only at h
    by_cases hok : okUs us = true
    · rw [if_pos hok] at h; cases h
    · by_cases hl : us.length ≤ 37
      · exact checkP_step A B m us v b w hS hT hv hn hl hpl fun hu => hok ((okUs_iff us).2 ⟨hl, hu⟩)
      · obtain ⟨q, cap, rfl, _⟩ := hv
        exact checkP_many A B m b q us.length cap w hS hn (by omega)

set_option maxHeartbeats 1000000 in
theorem wencP_no (A : Nat → Addr) (B : Nat) (p : Pf) (v : Value) (w : World) (hS : Sents A B w) (hT : Tab w) (hv : URow w v p.ups) (hp0 : p.bottom.path.length ≤ 9223372036854775807) (hpl : ∀ u, u ∈ p.ups → u.path.length ≤ 9223372036854775807) (h : encP p = none) :
    Calls Tryz.prog 43 #[prfV p v] w fun e w' => ∃ t x, e = .returned (.tuple #[.string (S []), .iface t x]) ∧ NoB A (.iface t x) ∧ Below w.heap.size w w' := by
  have hk : ∀ o : Obj, Calls Tryz.prog 99 #[prfV p v] (w.alloc o) fun e w' => ∃ t x, e = .returned (.iface t x) ∧ NoB A (.iface t x) ∧ Below (w.alloc o).heap.size (w.alloc o) w' := fun o =>
    checkP_no A B p v (w.alloc o) (hS.to ((Below.refl _ w).alloc hS.size _)) (hT.to ((Below.refl w.heap.size w).alloc (Nat.le_refl _) _) hT.lt) (hv.to ((Below.refl _ w).alloc (Nat.le_refl _) _)) hp0 hpl h
  have hhd := neq_held
  clear h hv hT hp0 hpl
  unfold prfV at hk ⊢
  go_enter Tryz.func43, Tryz.ntmps43
  go_wp2_with fail
  refine (hk _).mono ?_
  rintro e w1 ⟨t, x, rfl, hno, hb1⟩
  have hbx := ((Below.refl _ w).alloc (Nat.le_refl _) _).trans (hb1.mono (by simp))
  clear hb1 hk
  go_wp2_with fail
  refine (at_nob (A := A) _ _ _ hno).mono ?_
  rintro e w' ⟨t', x', rfl, hno', rfl⟩
  go_wp2
  go_ret2
  exact ⟨_, _, rfl, hno', hbx⟩

set_option maxHeartbeats 1000000 in
theorem tencP_no (A : Nat → Addr) (B : Nat) (p : Pf) (v : Value) (w : World) (hS : Sents A B w) (hT : Tab w) (hv : URow w v p.ups) (hp0 : p.bottom.path.length ≤ 9223372036854775807) (hpl : ∀ u, u ∈ p.ups → u.path.length ≤ 9223372036854775807) (h : encP p = none) :
    Calls Tryz.prog 11 #[prfV p v] w fun e w' => e = .returned (.tuple #[.string (S []), .int .i64 3]) ∧ Below w.heap.size w w' := by
  have hk : ∀ o, Calls Tryz.prog 43 #[prfV p v] (w.alloc o) fun e w' => ∃ t x, e = .returned (.tuple #[.string (S []), .iface t x]) ∧ NoB A (.iface t x) ∧ Below (w.alloc o).heap.size (w.alloc o) w' := fun o =>
    wencP_no A B p v _ (hS.to ((Below.refl _ w).alloc hS.size _)) (hT.to ((Below.refl w.heap.size w).alloc (Nat.le_refl _) _) hT.lt) (hv.to ((Below.refl _ w).alloc (Nat.le_refl _) _)) hp0 hpl h
  have hBs := hS.size
  clear h hv hT hp0 hpl
  unfold prfV at hk ⊢
  go_enter Tryz.func11, Tryz.ntmps11
  go_wp2_with fail
  refine (hk _).mono ?_
  rintro e w1 ⟨t, x, rfl, hno, hb1⟩
  have hbx := ((Below.refl _ w).alloc (Nat.le_refl _) _).trans (hb1.mono (by simp))
  have hS1 := hS.to (hbx.mono hBs)
  clear hb1 hk
  go_wp2_with fail
  refine (errno_nob A B _ _ hS1 hno).mono ?_
  rintro e w2 ⟨rfl, hb2⟩
  have hb3 := hbx.trans (hb2.mono (by have := hbx.size; omega))
  clear hb2 hbx
  go_wp2
  go_ret2
  exact ⟨rfl, hb3⟩
end Go.Proofs.YtddcbeeldjjmeaaGreatDoor.Tw
