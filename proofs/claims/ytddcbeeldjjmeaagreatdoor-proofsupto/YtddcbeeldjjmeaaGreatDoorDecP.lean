/- The program's reader: a step of a proof, and the bottom. -/
import Derived.Test.YtddcbeeldjjmeaaGreatDoorPrf
import Derived.Test.YtddcbeeldjjmeaaGreatDoorDec
namespace Go.Proofs.YtddcbeeldjjmeaaGreatDoor.Tw
open Go.RowKit Go.Proofs.YtddcbeeldjjmeaaGreatDoor.Pu
set_option linter.unusedVariables false
set_option linter.unusedSimpArgs false

theorem Adv.three {a : Addr} {l : List UInt8} {w w1 : World} {c0 c1 c2 : Value} {t : TypeId} (h : Adv a l (w.alloc (.cells #[c0, c1, c2] t)) w1) (hn : w.heap.size ≠ a.block) :
    (w1.cell? ⟨w.heap.size, 0, none⟩ = some c0 ∧ w1.cell? ⟨w.heap.size, 1, none⟩ = some c1 ∧ w1.cell? ⟨w.heap.size, 2, none⟩ = some c2) ∧
    ∀ o, w1.frozen? ⟨w.heap.size, o, none⟩ = false := by
  obtain ⟨h1, h2⟩ := h.cells w.heap.size (by simp) hn
  refine ⟨⟨?_, ?_, ?_⟩, ?_⟩
  · rw [h1]; simp
  · rw [h1]; simp
  · rw [h1]; simp
  · intro o; rw [h2]; exact World.frozen?_alloc_new _ _ _ _

theorem pPath_rest (l l1 s : List UInt8) (h : pPath l = some (s, l1)) : l1.length ≤ l.length := by
  rw [(pPath_sound _ _ _ h).1, List.length_append]; omega
theorem p4_rest (l l1 : List UInt8) (n : Nat) (h : p4 l = some (n, l1)) : l1.length ≤ l.length := by
  rw [(p4_sound _ _ _ h).1, List.length_append]; omega
theorem pU_rest (l l1 : List UInt8) (u : Us) (h : pU l = some (u, l1)) : l1.length ≤ l.length := by
  rw [(pU_sound _ _ _ h).1, List.length_append]; omega
theorem pNumR (l l1 : List UInt8) (n : Nat) (h : pNum l = some (n, l1)) : l1.length ≤ l.length := by
  rw [(pNum_sound _ _ _ h).1, List.length_append]; omega
theorem pBot_rest (l l1 : List UInt8) (n : Nd) (h : pBot l = some (n, l1)) : l1.length ≤ l.length := by
  obtain ⟨c, _, e⟩ := pBot_sound _ _ _ h
  rw [e, List.length_append, List.length_append]; omega

def zeroUV : Value := .agg #[.int .i64 0, .string (S []), .int .i64 0]

set_option maxHeartbeats 1000000 in
theorem up_ok (A : Nat → Addr) (rb : Nat) (l r : List UInt8) (u : Us) (w : World) (hp : pU l = some (u, r)) (hl : l.length ≤ 9223372036854775807)
    (hc : w.cell? ⟨rb, 0, none⟩ = some (.string (S l))) (hf : w.frozen? ⟨rb, 0, none⟩ = false) :
    Calls Tryz.prog 156 #[.pointer (some ⟨rb, 0, none⟩)] w fun e w' => e = .returned (.tuple #[upV u, .nilIface]) ∧ Adv ⟨rb, 0, none⟩ r w w' := by
  have hnn := neq_nil
  have hrb : rb < w.heap.size := cell_lt hc
  have hrn : w.heap.size ≠ rb := by omega
  have hb0 : ∀ o, Adv ⟨rb, 0, none⟩ l w (w.alloc o) := fun o => (Adv.refl hc hf).alloc o hrb
  obtain ⟨c, l0, rfl⟩ : ∃ c l0, l = c :: l0 := by
    match l, hp with
    | c :: l0, _ => exact ⟨c, l0, rfl⟩
  rw [pU_cons] at hp
  by_cases hcw : c.toNat ≤ 1
  · rw [if_pos hcw] at hp
    cases h1 : pPath l0 with
    | none => rw [h1] at hp; cases hp
    | some y =>
      obtain ⟨p, l1⟩ := y
      rw [h1] at hp
      dsimp only at hp
      cases h2 : p4 l1 with
      | none => rw [h2] at hp; cases hp
      | some z =>
        obtain ⟨x, l2⟩ := z
        rw [h2] at hp
        simp only [Option.some.injEq, Prod.mk.injEq] at hp
        obtain ⟨rfl, rfl⟩ := hp
        have hl0 : l0.length ≤ 9223372036854775807 := by simp only [List.length_cons] at hl; omega
        have hl1 := Nat.le_trans (pPath_rest _ _ _ h1) hl0
        have hk1 := fun w hc hf => single_ok rb c l0 w hl hc hf
        have hk2 := fun w => side_bound (c.toNat : Int) true w (by simp; omega)
        have hk3 := fun w hc hf => path_ok A rb l0 l1 p w h1 hl0 hc hf
        have hk4 := fun w hc hf => four_ok rb l1 l2 x w h2 hl1 hc hf
        clear h1 h2 hc hf hcw
        unfold upV
        dsimp only
        go_enter Tryz.func156, Tryz.ntmps156
        go_wp2_with fail
        refine (hk1 _ (hb0 _).rest (hb0 _).mark).mono ?_
        rintro e w1 ⟨rfl, hb1⟩
        have hc1 := hb1.rest
        have hf1 := hb1.mark
        go_wp2_with fail
        refine (hk2 _).mono ?_
        rintro e w' ⟨rfl, rfl⟩
        go_wp2_with fail
        refine (hk3 _ hc1 hf1).mono ?_
        rintro e w2 ⟨rfl, hb2⟩
        have hc2 := hb2.rest
        have hf2 := hb2.mark
        go_wp2_with fail
        refine (hk4 _ hc2 hf2).mono ?_
        rintro e w3 ⟨rfl, hb3⟩
        have hb9 := (hb1.trans hb2).trans hb3
        obtain ⟨hq1, hq2⟩ := hb9.three hrn
        have HB : Hid _ := (hb0 _).trans hb9
        clear hk1 hk2 hk3 hk4 hb1 hb2 hb3 hb9 hc1 hf1 hc2 hf2
        go_wp2_with fail
        refine bodyPost_ret (v := .tuple #[.agg #[.int .i64 c.toNat, .string (S p), .int .i64 x], .nilIface]) (by simp [results, Tryz.results156, go_sem, hq1]; try rfl) rfl ⟨rfl, ?_⟩
        repeat (refine Adv.setNew ?_ _ _ (Nat.le_refl _) hrn)
        exact HB.out
  · rw [if_neg hcw] at hp; cases hp

set_option maxHeartbeats 2000000 in
theorem up_bad (A : Nat → Addr) (B : Nat) (rb : Nat) (l : List UInt8) (w : World) (hS : Sents A B w) (hB : B ≤ rb) (hp : pU l = none) (hl : l.length ≤ 9223372036854775807)
    (hc : w.cell? ⟨rb, 0, none⟩ = some (.string (S l))) (hf : w.frozen? ⟨rb, 0, none⟩ = false) :
    Calls Tryz.prog 156 #[.pointer (some ⟨rb, 0, none⟩)] w fun e w' => Fails A rb w zeroUV e w' := by
  have hnn := neq_nil
  have hhd := neq_held
  have hBs := hS.size
  have hrb : rb < w.heap.size := cell_lt hc
  have hrn : w.heap.size ≠ rb := by omega
  have hb0 : ∀ o, Adv ⟨rb, 0, none⟩ l w (w.alloc o) := fun o => (Adv.refl hc hf).alloc o hrb
  have hbt : Bad A (.iface 423 (.pointer (some (A 10)))) := Bad.base _ (by decide)
  unfold zeroUV
  match l, hp, hl, hc, hb0 with
  | [], hp, hl, hc, hb0 =>
    have hk1 := fun w hS hc hf => single_bad A B rb w hS hc hf
    clear hp hc hf
    go_enter Tryz.func156, Tryz.ntmps156
    go_wp2_with fail
    refine (hk1 _ (hS.to ((Below.refl B w).alloc hBs _)) (hb0 _).rest (hb0 _).mark).mono ?_
    rintro e w1 ⟨t, x, rfl, hbad, hb9⟩
    obtain ⟨hq1, hq2⟩ := hb9.three hrn
    go_wp2_with fail
    refine (at_bad (A := A) _ _ _ hbad).mono ?_
    rintro e w' ⟨t', x', rfl, hbad', rfl⟩
    go_wp2_with fail
    have HB : Hid _ := (hb0 _).trans hb9
    clear hb9
    refine bodyPost_ret (v := .tuple #[.agg #[.int .i64 0, .string (S []), .int .i64 0], .iface t' x']) (by simp [results, Tryz.results156, go_sem, hq1]; try rfl) rfl ?_
    refine ⟨_, _, [], rfl, hbad', ?_⟩
    repeat (refine Adv.setNew ?_ _ _ (Nat.le_refl _) hrn)
    exact HB.out
  | c :: l0, hp, hl, hc, hb0 =>
    rw [pU_cons] at hp
    have hl0 : l0.length ≤ 9223372036854775807 := by simp only [List.length_cons] at hl; omega
    have hk1 := fun w hc hf => single_ok rb c l0 w hl hc hf
    by_cases hcw : c.toNat ≤ 1
    · rw [if_pos hcw] at hp
      have hk2 := fun w => side_bound (c.toNat : Int) true w (by simp; omega)
      cases h1 : pPath l0 with
      | none =>
        have hk3 := fun w hS hc hf => path_bad A B rb l0 w hS hB h1 hl0 hc hf
        clear hp h1 hc hf hcw
        go_enter Tryz.func156, Tryz.ntmps156
        go_wp2_with fail
        refine (hk1 _ (hb0 _).rest (hb0 _).mark).mono ?_
        rintro e w1 ⟨rfl, hb1⟩
        have hS1 := hS.to (((hb0 _).trans hb1).below hB hBs)
        have hc1 := hb1.rest
        have hf1 := hb1.mark
        go_wp2_with fail
        refine (hk2 _).mono ?_
        rintro e w' ⟨rfl, rfl⟩
        go_wp2_with fail
        refine (hk3 _ hS1 hc1 hf1).mono ?_
        rintro e w2 ⟨t, x, l1, rfl, hbad, hb2⟩
        have hb9 := hb1.trans hb2
        obtain ⟨hq1, hq2⟩ := hb9.three hrn
        clear hb1 hb2
        go_wp2_with fail
        refine (at_bad (A := A) _ _ _ hbad).mono ?_
        rintro e w' ⟨t', x', rfl, hbad', rfl⟩
        go_wp2_with fail
        have HB : Hid _ := (hb0 _).trans hb9
        clear hb9
        refine bodyPost_ret (v := .tuple #[.agg #[.int .i64 0, .string (S []), .int .i64 0], .iface t' x']) (by simp [results, Tryz.results156, go_sem, hq1]; try rfl) rfl ?_
        refine ⟨_, _, l1, rfl, hbad', ?_⟩
        repeat (refine Adv.setNew ?_ _ _ (Nat.le_refl _) hrn)
        exact HB.out
      | some y =>
        obtain ⟨p, l1⟩ := y
        rw [h1] at hp
        dsimp only at hp
        have hl1 := Nat.le_trans (pPath_rest _ _ _ h1) hl0
        have hk3 := fun w hc hf => path_ok A rb l0 l1 p w h1 hl0 hc hf
        cases h2 : p4 l1 with
        | some z => rw [h2] at hp; cases hp
        | none =>
          have hk4 := fun w hS hc hf => four_bad A B rb l1 w hS h2 hl1 hc hf
          clear hp h1 h2 hc hf hcw
          go_enter Tryz.func156, Tryz.ntmps156
          go_wp2_with fail
          refine (hk1 _ (hb0 _).rest (hb0 _).mark).mono ?_
          rintro e w1 ⟨rfl, hb1⟩
          have hc1 := hb1.rest
          have hf1 := hb1.mark
          go_wp2_with fail
          refine (hk2 _).mono ?_
          rintro e w' ⟨rfl, rfl⟩
          go_wp2_with fail
          refine (hk3 _ hc1 hf1).mono ?_
          rintro e w2 ⟨rfl, hb2⟩
          have hc2 := hb2.rest
          have hf2 := hb2.mark
          have hS2 := hS.to (((hb0 _).trans (hb1.trans hb2)).below hB hBs)
          go_wp2_with fail
          refine (hk4 _ hS2 hc2 hf2).mono ?_
          rintro e w3 ⟨t, x, rfl, hbad, hb3⟩
          have hb9 := (hb1.trans hb2).trans hb3
          obtain ⟨hq1, hq2⟩ := hb9.three hrn
          clear hb1 hb2 hb3
          go_wp2_with fail
          refine (at_bad (A := A) _ _ _ hbad).mono ?_
          rintro e w' ⟨t', x', rfl, hbad', rfl⟩
          go_wp2_with fail
          have HB : Hid _ := (hb0 _).trans hb9
          clear hb9
          refine bodyPost_ret (v := .tuple #[.agg #[.int .i64 0, .string (S []), .int .i64 0], .iface t' x']) (by simp [results, Tryz.results156, go_sem, hq1]; try rfl) rfl ?_
          refine ⟨_, _, l1, rfl, hbad', ?_⟩
          repeat (refine Adv.setNew ?_ _ _ (Nat.le_refl _) hrn)
          exact HB.out
    · have hk2 := fun w => side_bound (c.toNat : Int) false w (by simp; omega)
      clear hp hc hf hcw
      go_enter Tryz.func156, Tryz.ntmps156
      go_wp2_with fail
      refine (hk1 _ (hb0 _).rest (hb0 _).mark).mono ?_
      rintro e w1 ⟨rfl, hb1⟩
      have hv := (hS.to (((hb0 _).trans hb1).below hB hBs)).all
      have hb9 := hb1
      obtain ⟨hq1, hq2⟩ := hb9.three hrn
      go_wp2_with fail
      refine (hk2 _).mono ?_
      rintro e w' ⟨rfl, rfl⟩
      go_wp2_with fail
      refine (at_bad (A := A) _ _ _ hbt).mono ?_
      rintro e w' ⟨t', x', rfl, hbad', rfl⟩
      go_wp2_with fail
      have HB : Hid _ := (hb0 _).trans hb9
      clear hb9
      refine bodyPost_ret (v := .tuple #[.agg #[.int .i64 0, .string (S []), .int .i64 0], .iface t' x']) (by simp [results, Tryz.results156, go_sem, hq1]; try rfl) rfl ?_
      refine ⟨_, _, l0, rfl, hbad', ?_⟩
      repeat (refine Adv.setNew ?_ _ _ (Nat.le_refl _) hrn)
      exact HB.out

set_option maxHeartbeats 1000000 in
theorem bot_ok (A : Nat → Addr) (rb : Nat) (l r : List UInt8) (m : Nd) (w : World) (hp : pBot l = some (m, r)) (hl : l.length ≤ 9223372036854775807)
    (hc : w.cell? ⟨rb, 0, none⟩ = some (.string (S l))) (hf : w.frozen? ⟨rb, 0, none⟩ = false) :
    Calls Tryz.prog 154 #[.pointer (some ⟨rb, 0, none⟩)] w fun e w' => e = .returned (.tuple #[nodeV m, .nilIface]) ∧ Adv ⟨rb, 0, none⟩ r w w' := by
  have hnn := neq_nil
  have hrb : rb < w.heap.size := cell_lt hc
  have hrn : w.heap.size ≠ rb := by omega
  have hb0 : ∀ o, Adv ⟨rb, 0, none⟩ l w (w.alloc o) := fun o => (Adv.refl hc hf).alloc o hrb
  unfold pBot at hp
  cases h1 : pNum l with
  | none => rw [h1] at hp; cases hp
  | some x =>
    obtain ⟨k, l1⟩ := x
    rw [h1] at hp
    dsimp only at hp
    by_cases hk : l1.length < k
    · rw [if_pos hk] at hp; cases hp
    · rw [if_neg hk] at hp
      cases h2 : decN (l1.take k) with
      | none => rw [h2] at hp; cases hp
      | some n =>
        rw [h2] at hp
        simp only [Option.some.injEq, Prod.mk.injEq] at hp
        obtain ⟨rfl, rfl⟩ := hp
        have hl1 := Nat.le_trans (pNumR _ _ _ h1) hl
        have hk1 := fun w hc hf => number_ok rb l l1 k w h1 hl hc hf
        have hk2 := fun w hc hf => take_ok rb l1 (k : Int) w (by omega) (by omega) hl1 hc hf
        have hk3 := fun w => wdec_ok A (l1.take k) n w h2 (by rw [List.length_take]; omega)
        simp only [Int.toNat_natCast] at hk2
        generalize l1.take k = lt at hk2 hk3
        generalize l1.drop k = lr at hk2
        clear h1 h2 hc hf hk
        unfold nodeV at hk3 ⊢
        go_enter Tryz.func154, Tryz.ntmps154
        go_wp2_with fail
        refine (hk1 _ (hb0 _).rest (hb0 _).mark).mono ?_
        rintro e w1 ⟨rfl, hb1⟩
        have hc1 := hb1.rest
        have hf1 := hb1.mark
        go_wp2_with fail
        refine (hk2 _ hc1 hf1).mono ?_
        rintro e w2 ⟨rfl, hb2⟩
        have hb3 := hb1.trans hb2
        go_wp2_with fail
        refine (hk3 _).mono ?_
        rintro e w3 ⟨rfl, hB3⟩
        have hb9 := hb3.then hB3 (cell_lt hb3.rest)
        obtain ⟨hq1, hq2⟩ := hb9.five hrn
        have HB : Hid _ := (hb0 _).trans hb9
        clear hk1 hk2 hk3 hb1 hb2 hb3 hb9 hB3 hc1 hf1
        go_wp2_with fail
        refine bodyPost_ret (v := .tuple #[.agg #[.int .i64 n.kind, .string (S n.path), .string (S n.value), .int .i64 n.left, .int .i64 n.right], .nilIface]) (by simp [results, Tryz.results154, go_sem, hq1]; try rfl) rfl ⟨rfl, ?_⟩
        repeat (refine Adv.setNew ?_ _ _ (Nat.le_refl _) hrn)
        exact HB.out

set_option maxHeartbeats 2000000 in
theorem bot_bad (A : Nat → Addr) (B : Nat) (rb : Nat) (l : List UInt8) (w : World) (hS : Sents A B w) (hB : B ≤ rb) (hp : pBot l = none) (hl : l.length ≤ 9223372036854775807)
    (hc : w.cell? ⟨rb, 0, none⟩ = some (.string (S l))) (hf : w.frozen? ⟨rb, 0, none⟩ = false) :
    Calls Tryz.prog 154 #[.pointer (some ⟨rb, 0, none⟩)] w fun e w' => Fails A rb w (nodeV zeroN) e w' := by
  have hnn := neq_nil
  have hhd := neq_held
  have hBs := hS.size
  have hrb : rb < w.heap.size := cell_lt hc
  have hrn : w.heap.size ≠ rb := by omega
  have hb0 : ∀ o, Adv ⟨rb, 0, none⟩ l w (w.alloc o) := fun o => (Adv.refl hc hf).alloc o hrb
  have hsh : Bad A (ptrE (A 1)) := Bad.base _ (by decide)
  unfold ptrE at hsh
  unfold pBot at hp
  cases h1 : pNum l with
  | none =>
    have hk1 := fun w hS hc hf => number_bad A B rb l w hS hB h1 hl hc hf
    clear hp h1 hc hf
    unfold nodeV zeroN
    dsimp only
    go_enter Tryz.func154, Tryz.ntmps154
    go_wp2_with fail
    refine (hk1 _ (hS.to ((Below.refl B w).alloc hBs _)) (hb0 _).rest (hb0 _).mark).mono ?_
    rintro e w1 ⟨t, x, l1, rfl, hbad, hb9⟩
    obtain ⟨hq1, hq2⟩ := hb9.five hrn
    go_wp2_with fail
    refine (at_bad (A := A) _ _ _ hbad).mono ?_
    rintro e w' ⟨t', x', rfl, hbad', rfl⟩
    go_wp2_with fail
    have HB : Hid _ := (hb0 _).trans hb9
    clear hb9
    refine bodyPost_ret (v := .tuple #[.agg #[.int .i64 0, .string (S []), .string (S []), .int .i64 0, .int .i64 0], .iface t' x']) (by simp [results, Tryz.results154, go_sem, hq1]; try rfl) rfl ?_
    refine ⟨_, _, l1, rfl, hbad', ?_⟩
    repeat (refine Adv.setNew ?_ _ _ (Nat.le_refl _) hrn)
    exact HB.out
  | some x =>
    obtain ⟨k, l1⟩ := x
    rw [h1] at hp
    dsimp only at hp
    have hl1 := Nat.le_trans (pNumR _ _ _ h1) hl
    have hk1 := fun w hc hf => number_ok rb l l1 k w h1 hl hc hf
    by_cases hk : l1.length < k
    · have hk2 := fun w hS hc hf => take_short A B rb l1 (k : Int) w hS (by omega) hl1 hc hf
      unfold ptrE at hk2
      clear hp h1 hc hf hk
      unfold nodeV zeroN
      dsimp only
      go_enter Tryz.func154, Tryz.ntmps154
      go_wp2_with fail
      refine (hk1 _ (hb0 _).rest (hb0 _).mark).mono ?_
      rintro e w1 ⟨rfl, hb1⟩
      have hS1 := hS.to (((hb0 _).trans hb1).below hB hBs)
      have hc1 := hb1.rest
      have hf1 := hb1.mark
      go_wp2_with fail
      refine (hk2 _ hS1 hc1 hf1).mono ?_
      rintro e w2 ⟨rfl, hb2⟩
      have hb9 := hb1.trans hb2
      obtain ⟨hq1, hq2⟩ := hb9.five hrn
      clear hb1 hb2 hk2 hk1
      go_wp2_with fail
      refine (at_bad (A := A) _ _ _ hsh).mono ?_
      rintro e w' ⟨t', x', rfl, hbad', rfl⟩
      go_wp2_with fail
      have HB : Hid _ := (hb0 _).trans hb9
      clear hb9
      refine bodyPost_ret (v := .tuple #[.agg #[.int .i64 0, .string (S []), .string (S []), .int .i64 0, .int .i64 0], .iface t' x']) (by simp [results, Tryz.results154, go_sem, hq1]; try rfl) rfl ?_
      refine ⟨_, _, l1, rfl, hbad', ?_⟩
      repeat (refine Adv.setNew ?_ _ _ (Nat.le_refl _) hrn)
      exact HB.out
    · rw [if_neg hk] at hp
      cases h2 : decN (l1.take k) with
      | some n => rw [h2] at hp; cases hp
      | none =>
        have hk2 := fun w hc hf => take_ok rb l1 (k : Int) w (by omega) (by omega) hl1 hc hf
        have hk3 := fun w hS => wdec_bad A B (l1.take k) w hS h2 (by rw [List.length_take]; omega)
        simp only [Int.toNat_natCast] at hk2
        generalize l1.take k = lt at hk2 hk3
        generalize l1.drop k = lr at hk2
        clear hp h1 h2 hc hf hk
        unfold nodeV zeroN at *
        dsimp only at *
        go_enter Tryz.func154, Tryz.ntmps154
        go_wp2_with fail
        refine (hk1 _ (hb0 _).rest (hb0 _).mark).mono ?_
        rintro e w1 ⟨rfl, hb1⟩
        have hc1 := hb1.rest
        have hf1 := hb1.mark
        go_wp2_with fail
        refine (hk2 _ hc1 hf1).mono ?_
        rintro e w2 ⟨rfl, hb2⟩
        have hb3 := hb1.trans hb2
        have hS2 := hS.to (((hb0 _).trans hb3).below hB hBs)
        go_wp2_with fail
        refine (hk3 _ hS2).mono ?_
        rintro e w3 ⟨t, x, rfl, hbad, hB3⟩
        have hb9 := hb3.then hB3 (cell_lt hb3.rest)
        obtain ⟨hq1, hq2⟩ := hb9.five hrn
        clear hk1 hk2 hk3 hb1 hb2 hb3 hB3 hc1 hf1
        go_wp2_with fail
        have HB : Hid _ := (hb0 _).trans hb9
        clear hb9
        refine bodyPost_ret (v := .tuple #[.agg #[.int .i64 0, .string (S []), .string (S []), .int .i64 0, .int .i64 0], .iface t x]) (by simp [results, Tryz.results154, go_sem, hq1]; try rfl) rfl ?_
        refine ⟨_, _, lr, rfl, hbad, ?_⟩
        repeat (refine Adv.setNew ?_ _ _ (Nat.le_refl _) hrn)
        exact HB.out
end Go.Proofs.YtddcbeeldjjmeaaGreatDoor.Tw
