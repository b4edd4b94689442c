/- The program's reader: nodes. -/
import Derived.Test.YtddcbeeldjjmeaaGreatDoorPath
namespace Go.Proofs.YtddcbeeldjjmeaaGreatDoor.Tw
open Go.RowKit Go.Proofs.YtddcbeeldjjmeaaGreatDoor.Pu
set_option linter.unusedVariables false
set_option linter.unusedSimpArgs false

theorem Adv.cells {a : Addr} {l : List UInt8} {w0 w1 : World} (h : Adv a l w0 w1) (b : Nat) (hb : b < w0.heap.size) (hn : b ≠ a.block) :
    (∀ o, w1.cell? ⟨b, o, none⟩ = w0.cell? ⟨b, o, none⟩) ∧ (∀ o, w1.frozen? ⟨b, o, none⟩ = w0.frozen? ⟨b, o, none⟩) :=
  ⟨fun o => h.cell (p := ⟨b, o, none⟩) hb hn, fun o => h.frozen (p := ⟨b, o, none⟩) hb hn⟩

/-- The five cells of a struct that was laid ahead of a reader's steps. -/
theorem Adv.five {a : Addr} {l : List UInt8} {w w1 : World} {c0 c1 c2 c3 c4 : Value} {t : TypeId} (h : Adv a l (w.alloc (.cells #[c0, c1, c2, c3, c4] t)) w1) (hn : w.heap.size ≠ a.block) :
    (w1.cell? ⟨w.heap.size, 0, none⟩ = some c0 ∧ w1.cell? ⟨w.heap.size, 1, none⟩ = some c1 ∧ w1.cell? ⟨w.heap.size, 2, none⟩ = some c2 ∧ w1.cell? ⟨w.heap.size, 3, none⟩ = some c3 ∧ w1.cell? ⟨w.heap.size, 4, none⟩ = some c4) ∧
    ∀ o, w1.frozen? ⟨w.heap.size, o, none⟩ = false := by
  obtain ⟨h1, h2⟩ := h.cells w.heap.size (by simp) hn
  refine ⟨⟨?_, ?_, ?_, ?_, ?_⟩, ?_⟩
  · rw [h1]; simp
  · rw [h1]; simp
  · rw [h1]; simp
  · rw [h1]; simp
  · rw [h1]; simp
  · intro o; rw [h2]; exact World.frozen?_alloc_new _ _ _ _

/-- A node as the program's value. -/
def nodeV (n : Nd) : Value := .agg #[.int .i64 n.kind, .string (S n.path), .string (S n.value), .int .i64 n.left, .int .i64 n.right]

set_option maxHeartbeats 400000 in
theorem leaf_ok (A : Nat → Addr) (rb : Nat) (l r : List UInt8) (n : Nd) (w : World) (hp : pLeaf l = some (n, r)) (hl : l.length ≤ 9223372036854775807)
    (hc : w.cell? ⟨rb, 0, none⟩ = some (.string (S l))) (hf : w.frozen? ⟨rb, 0, none⟩ = false) :
    Calls Tryz.prog 160 #[.pointer (some ⟨rb, 0, none⟩)] w fun e w' => e = .returned (.tuple #[nodeV n, .nilIface]) ∧ Adv ⟨rb, 0, none⟩ r w w' := by
  have hnn := neq_nil
  have hrb : rb < w.heap.size := cell_lt hc
  have hb0 : ∀ o, Adv ⟨rb, 0, none⟩ l w (w.alloc o) := fun o => (Adv.refl hc hf).alloc o hrb
  unfold pLeaf at hp
  cases hpp : pPath l with
  | none => rw [hpp] at hp; cases hp
  | some x =>
    obtain ⟨p, l1⟩ := x
    rw [hpp] at hp
    simp only at hp
    cases hv : pVal l1 with
    | none => rw [hv] at hp; cases hp
    | some y =>
      obtain ⟨v, l2⟩ := y
      rw [hv] at hp
      simp only [Option.some.injEq, Prod.mk.injEq] at hp
      obtain ⟨rfl, rfl⟩ := hp
      have hl1 : l1.length ≤ 9223372036854775807 := by
        obtain ⟨e, _⟩ := pPath_sound _ _ _ hpp
        rw [e, List.length_append] at hl
        omega
      have hk1 := fun w hc hf => path_ok A rb l l1 p w hpp hl hc hf
      have hk2 := fun w hc hf => value_ok rb l1 l2 v w hv hl1 hc hf
      clear hpp hv hc hf
      go_enter Tryz.func160, Tryz.ntmps160
      go_wp2_with fail
      refine (hk1 _ (hb0 _).rest (hb0 _).mark).mono ?_
      rintro e w1 ⟨rfl, hb1⟩
      have hc1 := hb1.rest
      have hf1 := hb1.mark
      go_wp2_with fail
      refine (hk2 _ hc1 hf1).mono ?_
      rintro e w2 ⟨rfl, hb2⟩
      have hrn : w.heap.size ≠ rb := by omega
      have hb3 := (hb0 _).trans (hb1.trans hb2)
      obtain ⟨hq1, hq2⟩ := (hb1.trans hb2).five hrn
      go_wp2
      refine bodyPost_ret (v := .tuple #[nodeV ⟨0, p, v, 0, 0⟩, .nilIface]) (by simp [results, Tryz.results160, go_sem, hq1, nodeV]) rfl ⟨rfl, ?_⟩
      repeat (refine Adv.setNew ?_ _ _ (Nat.le_refl _) hrn)
      exact hb3

def zeroN : Nd := ⟨0, [], [], 0, 0⟩

set_option maxHeartbeats 400000 in
theorem leaf_bad (A : Nat → Addr) (B : Nat) (rb : Nat) (l : List UInt8) (w : World) (hS : Sents A B w) (hB : B ≤ rb) (hp : pLeaf l = none) (hl : l.length ≤ 9223372036854775807)
    (hc : w.cell? ⟨rb, 0, none⟩ = some (.string (S l))) (hf : w.frozen? ⟨rb, 0, none⟩ = false) :
    Calls Tryz.prog 160 #[.pointer (some ⟨rb, 0, none⟩)] w fun e w' => Fails A rb w (nodeV zeroN) e w' := by
  have hnn := neq_nil
  have hhd := neq_held
  have hrb : rb < w.heap.size := cell_lt hc
  have hrn : w.heap.size ≠ rb := by omega
  have hb0 : ∀ o, Adv ⟨rb, 0, none⟩ l w (w.alloc o) := fun o => (Adv.refl hc hf).alloc o hrb
  have hS0 : ∀ o, Sents A B (w.alloc o) := fun o => hS.to ((hb0 o).below hB hS.size)
  unfold pLeaf at hp
  cases hpp : pPath l with
  | none =>
    have hk1 := fun w hS hc hf => path_bad A B rb l w hS hB hpp hl hc hf
    clear hpp hp hc hf
    go_enter Tryz.func160, Tryz.ntmps160
    go_wp2_with fail
    refine (hk1 _ (hS0 _) (hb0 _).rest (hb0 _).mark).mono ?_
    rintro e w1 ⟨t, x, l1, rfl, hbad, hb1⟩
    go_wp2_with fail
    refine (at_bad (A := A) _ _ _ hbad).mono ?_
    rintro e w' ⟨t', x', rfl, hbad', rfl⟩
    obtain ⟨hq1, hq2⟩ := hb1.five hrn
    go_wp2
    refine bodyPost_ret (v := .tuple #[nodeV zeroN, .iface t' x']) (by simp [results, Tryz.results160, go_sem, hq1, nodeV, zeroN]; try rfl) rfl ⟨_, _, l1, rfl, hbad', ?_⟩
    repeat (refine Adv.setNew ?_ _ _ (Nat.le_refl _) hrn)
    exact (hb0 _).trans hb1
  | some x =>
    obtain ⟨p, l1⟩ := x
    rw [hpp] at hp
    simp only at hp
    cases hv : pVal l1 with
    | none =>
      have hl1 : l1.length ≤ 9223372036854775807 := by
        obtain ⟨e, _⟩ := pPath_sound _ _ _ hpp
        rw [e, List.length_append] at hl
        omega
      have hk1 := fun w hc hf => path_ok A rb l l1 p w hpp hl hc hf
      have hk2 := fun w hS hc hf => value_bad A B rb l1 w hS hB hv hl1 hc hf
      clear hpp hv hc hf hp
      go_enter Tryz.func160, Tryz.ntmps160
      go_wp2_with fail
      refine (hk1 _ (hb0 _).rest (hb0 _).mark).mono ?_
      rintro e w1 ⟨rfl, hb1⟩
      have hc1 := hb1.rest
      have hf1 := hb1.mark
      have hS1 := hS.to (((hb0 _).trans hb1).below hB hS.size)
      go_wp2_with fail
      refine (hk2 _ hS1 hc1 hf1).mono ?_
      rintro e w2 ⟨t, x, l2, rfl, hbad, hb2⟩
      go_wp2_with fail
      refine (at_bad (A := A) _ _ _ hbad).mono ?_
      rintro e w' ⟨t', x', rfl, hbad', rfl⟩
      obtain ⟨hq1, hq2⟩ := (hb1.trans hb2).five hrn
      go_wp2
      refine bodyPost_ret (v := .tuple #[nodeV zeroN, .iface t' x']) (by simp [results, Tryz.results160, go_sem, hq1, nodeV, zeroN]; try rfl) rfl ⟨_, _, l2, rfl, hbad', ?_⟩
      repeat (refine Adv.setNew ?_ _ _ (Nat.le_refl _) hrn)
      exact (hb0 _).trans (hb1.trans hb2)
    | some y => rw [hv] at hp; cases hp

set_option maxHeartbeats 400000 in
theorem branch_ok (A : Nat → Addr) (rb : Nat) (l r : List UInt8) (n : Nd) (w : World) (hp : pBranch l = some (n, r)) (hl : l.length ≤ 9223372036854775807)
    (hc : w.cell? ⟨rb, 0, none⟩ = some (.string (S l))) (hf : w.frozen? ⟨rb, 0, none⟩ = false) :
    Calls Tryz.prog 161 #[.pointer (some ⟨rb, 0, none⟩)] w fun e w' => e = .returned (.tuple #[nodeV n, .nilIface]) ∧ Adv ⟨rb, 0, none⟩ r w w' := by
  have hnn := neq_nil
  have hhd := neq_held
  have hrb : rb < w.heap.size := cell_lt hc
  have hrn : w.heap.size ≠ rb := by omega
  have hb0 : ∀ o, Adv ⟨rb, 0, none⟩ l w (w.alloc o) := fun o => (Adv.refl hc hf).alloc o hrb
  unfold pBranch at hp
  cases hpp : pPath l with
  | none => rw [hpp] at hp; cases hp
  | some x =>
    obtain ⟨p, l1⟩ := x
    rw [hpp] at hp
    simp only at hp
    cases hx : p4 l1 with
    | none => rw [hx] at hp; cases hp
    | some y =>
      obtain ⟨x, l2⟩ := y
      rw [hx] at hp
      simp only at hp
      cases hy : p4 l2 with
      | none => rw [hy] at hp; cases hp
      | some z =>
        obtain ⟨y, l3⟩ := z
        rw [hy] at hp
        simp only [Option.some.injEq, Prod.mk.injEq] at hp
        obtain ⟨rfl, rfl⟩ := hp
        have hl1 : l1.length ≤ 9223372036854775807 := by
          obtain ⟨e, _⟩ := pPath_sound _ _ _ hpp
          rw [e, List.length_append] at hl
          omega
        have hl2 : l2.length ≤ 9223372036854775807 := by
          obtain ⟨e, _⟩ := p4_sound _ _ _ hx
          rw [e, List.length_append] at hl1
          omega
        have hk1 := fun w hc hf => path_ok A rb l l1 p w hpp hl hc hf
        have hk2 := fun w hc hf => four_ok rb l1 l2 x w hx hl1 hc hf
        have hk3 := fun w hc hf => four_ok rb l2 l3 y w hy hl2 hc hf
        clear hpp hx hy hc hf
        go_enter Tryz.func161, Tryz.ntmps161
        go_wp2_with fail
        refine (hk1 _ (hb0 _).rest (hb0 _).mark).mono ?_
        rintro e w1 ⟨rfl, hb1⟩
        have hc1 := hb1.rest
        have hf1 := hb1.mark
        go_wp2_with fail
        refine (hk2 _ hc1 hf1).mono ?_
        rintro e w2 ⟨rfl, hb2⟩
        have hc2 := hb2.rest
        have hf2 := hb2.mark
        go_wp2_with fail
        refine (hk3 _ hc2 hf2).mono ?_
        rintro e w3 ⟨rfl, hb3⟩
        obtain ⟨hq1, hq2⟩ := ((hb1.trans hb2).trans hb3).five hrn
        go_wp2
        refine bodyPost_ret (v := .tuple #[nodeV ⟨1, p, [], x, y⟩, .nilIface]) (by simp [results, Tryz.results161, go_sem, hq1, nodeV]; try rfl) rfl ⟨rfl, ?_⟩
        repeat (refine Adv.setNew ?_ _ _ (Nat.le_refl _) hrn)
        exact (hb0 _).trans ((hb1.trans hb2).trans hb3)

set_option maxHeartbeats 400000 in
theorem branch_bad (A : Nat → Addr) (B : Nat) (rb : Nat) (l : List UInt8) (w : World) (hS : Sents A B w) (hB : B ≤ rb) (hp : pBranch l = none) (hl : l.length ≤ 9223372036854775807)
    (hc : w.cell? ⟨rb, 0, none⟩ = some (.string (S l))) (hf : w.frozen? ⟨rb, 0, none⟩ = false) :
    Calls Tryz.prog 161 #[.pointer (some ⟨rb, 0, none⟩)] w fun e w' => Fails A rb w (nodeV zeroN) e w' := by
  have hnn := neq_nil
  have hhd := neq_held
  have hrb : rb < w.heap.size := cell_lt hc
  have hrn : w.heap.size ≠ rb := by omega
  have hb0 : ∀ o, Adv ⟨rb, 0, none⟩ l w (w.alloc o) := fun o => (Adv.refl hc hf).alloc o hrb
  have hS0 : ∀ o, Sents A B (w.alloc o) := fun o => hS.to ((hb0 o).below hB hS.size)
  unfold pBranch at hp
  cases hpp : pPath l with
  | none =>
    have hk1 := fun w hS hc hf => path_bad A B rb l w hS hB hpp hl hc hf
    clear hpp hp hc hf
    go_enter Tryz.func161, Tryz.ntmps161
    go_wp2_with fail
    refine (hk1 _ (hS0 _) (hb0 _).rest (hb0 _).mark).mono ?_
    rintro e w1 ⟨t, x, l1, rfl, hbad, hb1⟩
    go_wp2_with fail
    refine (at_bad (A := A) _ _ _ hbad).mono ?_
    rintro e w' ⟨t', x', rfl, hbad', rfl⟩
    obtain ⟨hq1, hq2⟩ := hb1.five hrn
    go_wp2
    refine bodyPost_ret (v := .tuple #[nodeV zeroN, .iface t' x']) (by simp [results, Tryz.results161, go_sem, hq1, nodeV, zeroN]; try rfl) rfl ⟨_, _, l1, rfl, hbad', ?_⟩
    repeat (refine Adv.setNew ?_ _ _ (Nat.le_refl _) hrn)
    exact (hb0 _).trans hb1
  | some x =>
    obtain ⟨p, l1⟩ := x
    rw [hpp] at hp
    simp only at hp
    have hl1 : l1.length ≤ 9223372036854775807 := by
      obtain ⟨e, _⟩ := pPath_sound _ _ _ hpp
      rw [e, List.length_append] at hl
      omega
    have hk1 := fun w hc hf => path_ok A rb l l1 p w hpp hl hc hf
    cases hx : p4 l1 with
    | none =>
      have hk2 := fun w hS hc hf => four_bad A B rb l1 w hS hx hl1 hc hf
      clear hpp hx hc hf hp
      go_enter Tryz.func161, Tryz.ntmps161
      go_wp2_with fail
      refine (hk1 _ (hb0 _).rest (hb0 _).mark).mono ?_
      rintro e w1 ⟨rfl, hb1⟩
      have hc1 := hb1.rest
      have hf1 := hb1.mark
      have hS1 := hS.to (((hb0 _).trans hb1).below hB hS.size)
      go_wp2_with fail
      refine (hk2 _ hS1 hc1 hf1).mono ?_
      rintro e w2 ⟨t, x, rfl, hbad, hb2⟩
      go_wp2_with fail
      refine (at_bad (A := A) _ _ _ hbad).mono ?_
      rintro e w' ⟨t', x', rfl, hbad', rfl⟩
      obtain ⟨hq1, hq2⟩ := (hb1.trans hb2).five hrn
      go_wp2
      refine bodyPost_ret (v := .tuple #[nodeV zeroN, .iface t' x']) (by simp [results, Tryz.results161, go_sem, hq1, nodeV, zeroN]; try rfl) rfl ⟨_, _, l1, rfl, hbad', ?_⟩
      repeat (refine Adv.setNew ?_ _ _ (Nat.le_refl _) hrn)
      exact (hb0 _).trans (hb1.trans hb2)
    | some y =>
      obtain ⟨x, l2⟩ := y
      rw [hx] at hp
      simp only at hp
      have hl2 : l2.length ≤ 9223372036854775807 := by
        obtain ⟨e, _⟩ := p4_sound _ _ _ hx
        rw [e, List.length_append] at hl1
        omega
      have hk2 := fun w hc hf => four_ok rb l1 l2 x w hx hl1 hc hf
      cases hy : p4 l2 with
      | none =>
        have hk3 := fun w hS hc hf => four_bad A B rb l2 w hS hy hl2 hc hf
        clear hpp hx hy hc hf hp
        go_enter Tryz.func161, Tryz.ntmps161
        go_wp2_with fail
        refine (hk1 _ (hb0 _).rest (hb0 _).mark).mono ?_
        rintro e w1 ⟨rfl, hb1⟩
        have hc1 := hb1.rest
        have hf1 := hb1.mark
        go_wp2_with fail
        refine (hk2 _ hc1 hf1).mono ?_
        rintro e w2 ⟨rfl, hb2⟩
        have hc2 := hb2.rest
        have hf2 := hb2.mark
        have hS2 := hS.to (((hb0 _).trans (hb1.trans hb2)).below hB hS.size)
        go_wp2_with fail
        refine (hk3 _ hS2 hc2 hf2).mono ?_
        rintro e w3 ⟨t, x, rfl, hbad, hb3⟩
        go_wp2_with fail
        refine (at_bad (A := A) _ _ _ hbad).mono ?_
        rintro e w' ⟨t', x', rfl, hbad', rfl⟩
        obtain ⟨hq1, hq2⟩ := ((hb1.trans hb2).trans hb3).five hrn
        go_wp2
        refine bodyPost_ret (v := .tuple #[nodeV zeroN, .iface t' x']) (by simp [results, Tryz.results161, go_sem, hq1, nodeV, zeroN]; try rfl) rfl ⟨_, _, l2, rfl, hbad', ?_⟩
        repeat (refine Adv.setNew ?_ _ _ (Nat.le_refl _) hrn)
        exact (hb0 _).trans ((hb1.trans hb2).trans hb3)
      | some z => rw [hy] at hp; cases hp

set_option maxHeartbeats 400000 in
theorem node_ok (A : Nat → Addr) (rb : Nat) (l r : List UInt8) (n : Nd) (w : World) (hp : pNode l = some (n, r)) (hl : l.length ≤ 9223372036854775807)
    (hc : w.cell? ⟨rb, 0, none⟩ = some (.string (S l))) (hf : w.frozen? ⟨rb, 0, none⟩ = false) :
    Calls Tryz.prog 107 #[.pointer (some ⟨rb, 0, none⟩)] w fun e w' => e = .returned (.tuple #[nodeV n, .nilIface]) ∧ Adv ⟨rb, 0, none⟩ r w w' := by
  have hnn := neq_nil
  have hhd := neq_held
  have hrb : rb < w.heap.size := cell_lt hc
  have hrn : w.heap.size ≠ rb := by omega
  have hb0 : ∀ o, Adv ⟨rb, 0, none⟩ l w (w.alloc o) := fun o => (Adv.refl hc hf).alloc o hrb
  match l, hp with
  | c :: l, hp =>
    have hl' : l.length ≤ 9223372036854775807 := by simp only [List.length_cons] at hl; omega
    have hk1 := fun w hc hf => single_ok rb c l w hl hc hf
    unfold pNode at hp
    simp only at hp
    by_cases h0 : c = 0
    · subst h0
      rw [if_pos rfl] at hp
      have hk2 := fun w hc hf => leaf_ok A rb l r n w hp hl' hc hf
      clear hp hc hf
      go_enter Tryz.func107, Tryz.ntmps107
      go_wp2_with fail
      refine (hk1 _ (hb0 _).rest (hb0 _).mark).mono ?_
      rintro e w1 ⟨rfl, hb1⟩
      have hc1 := hb1.rest
      have hf1 := hb1.mark
      go_wp2_with fail
      refine (hk2 _ hc1 hf1).mono ?_
      rintro e w2 ⟨rfl, hb2⟩
      obtain ⟨hq1, hq2⟩ := (hb1.trans hb2).five hrn
      unfold nodeV
      go_wp2
      refine bodyPost_ret (v := .tuple #[nodeV n, .nilIface]) (by simp [results, Tryz.results107, go_sem, hq1, nodeV, zeroN, empty]; try rfl) rfl ⟨rfl, ?_⟩
      repeat (refine Adv.setNew ?_ _ _ (Nat.le_refl _) hrn)
      exact (hb0 _).trans (hb1.trans hb2)
    · rw [if_neg h0] at hp
      by_cases h1 : c = 1
      · subst h1
        rw [if_pos rfl] at hp
        have hk2 := fun w hc hf => branch_ok A rb l r n w hp hl' hc hf
        clear hp hc hf h0
        go_enter Tryz.func107, Tryz.ntmps107
        go_wp2_with fail
        refine (hk1 _ (hb0 _).rest (hb0 _).mark).mono ?_
        rintro e w1 ⟨rfl, hb1⟩
        have hc1 := hb1.rest
        have hf1 := hb1.mark
        go_wp2_with fail
        refine (hk2 _ hc1 hf1).mono ?_
        rintro e w2 ⟨rfl, hb2⟩
        obtain ⟨hq1, hq2⟩ := (hb1.trans hb2).five hrn
        unfold nodeV
        go_wp2
        refine bodyPost_ret (v := .tuple #[nodeV n, .nilIface]) (by simp [results, Tryz.results107, go_sem, hq1, nodeV, zeroN, empty]; try rfl) rfl ⟨rfl, ?_⟩
        repeat (refine Adv.setNew ?_ _ _ (Nat.le_refl _) hrn)
        exact (hb0 _).trans (hb1.trans hb2)
      · rw [if_neg h1] at hp
        by_cases h2 : c = 2
        · subst h2
          rw [if_pos rfl] at hp
          simp only [Option.some.injEq, Prod.mk.injEq] at hp
          obtain ⟨rfl, rfl⟩ := hp
          clear hc hf h0 h1
          go_enter Tryz.func107, Tryz.ntmps107
          go_wp2_with fail
          refine (hk1 _ (hb0 _).rest (hb0 _).mark).mono ?_
          rintro e w1 ⟨rfl, hb1⟩
          obtain ⟨hq1, hq2⟩ := hb1.five hrn
          go_wp2
          refine bodyPost_ret (v := .tuple #[nodeV empty, .nilIface]) (by simp [results, Tryz.results107, go_sem, hq1, nodeV, zeroN, empty]; try rfl) rfl ⟨rfl, ?_⟩
          repeat (refine Adv.setNew ?_ _ _ (Nat.le_refl _) hrn)
          exact (hb0 _).trans hb1
        · rw [if_neg h2] at hp; cases hp

theorem ne_of_u8 {c : UInt8} {n : Nat} (h : ¬ c = UInt8.ofNat n) (hn : n < 256) : ¬ c.toNat = n := by
  intro e
  apply h
  rw [← e]
  simp

set_option maxHeartbeats 400000 in
theorem node_bad (A : Nat → Addr) (B : Nat) (rb : Nat) (l : List UInt8) (w : World) (hS : Sents A B w) (hB : B ≤ rb) (hp : pNode l = none) (hl : l.length ≤ 9223372036854775807)
    (hc : w.cell? ⟨rb, 0, none⟩ = some (.string (S l))) (hf : w.frozen? ⟨rb, 0, none⟩ = false) :
    Calls Tryz.prog 107 #[.pointer (some ⟨rb, 0, none⟩)] w fun e w' => Fails A rb w (nodeV zeroN) e w' := by
  have hnn := neq_nil
  have hhd := neq_held
  have hrb : rb < w.heap.size := cell_lt hc
  have hrn : w.heap.size ≠ rb := by omega
  have hb0 : ∀ o, Adv ⟨rb, 0, none⟩ l w (w.alloc o) := fun o => (Adv.refl hc hf).alloc o hrb
  have hS0 : ∀ o, Sents A B (w.alloc o) := fun o => hS.to ((hb0 o).below hB hS.size)
  cases l with
  | nil =>
    have hk1 := fun w hS hc hf => single_bad A B rb w hS hc hf
    clear hp hc hf
    go_enter Tryz.func107, Tryz.ntmps107
    go_wp2_with fail
    refine (hk1 _ (hS0 _) (hb0 _).rest (hb0 _).mark).mono ?_
    rintro e w1 ⟨t, x, rfl, hbad, hb1⟩
    go_wp2_with fail
    refine (at_bad (A := A) _ _ _ hbad).mono ?_
    rintro e w' ⟨t', x', rfl, hbad', rfl⟩
    obtain ⟨hq1, hq2⟩ := hb1.five hrn
    go_wp2
    refine bodyPost_ret (v := .tuple #[nodeV zeroN, .iface t' x']) (by simp [results, Tryz.results107, go_sem, hq1, nodeV, zeroN, empty]; try rfl) rfl ⟨_, _, [], rfl, hbad', ?_⟩
    repeat (refine Adv.setNew ?_ _ _ (Nat.le_refl _) hrn)
    exact (hb0 _).trans hb1
  | cons c l =>
    have hl' : l.length ≤ 9223372036854775807 := by simp only [List.length_cons] at hl; omega
    have hk1 := fun w hc hf => single_ok rb c l w hl hc hf
    unfold pNode at hp
    simp only at hp
    by_cases h0 : c = 0
    · subst h0
      rw [if_pos rfl] at hp
      have hk2 := fun w hS hc hf => leaf_bad A B rb l w hS hB hp hl' hc hf
      clear hp hc hf
      go_enter Tryz.func107, Tryz.ntmps107
      go_wp2_with fail
      refine (hk1 _ (hb0 _).rest (hb0 _).mark).mono ?_
      rintro e w1 ⟨rfl, hb1⟩
      have hc1 := hb1.rest
      have hf1 := hb1.mark
      have hS1 := hS.to (((hb0 _).trans hb1).below hB hS.size)
      go_wp2_with fail
      refine (hk2 _ hS1 hc1 hf1).mono ?_
      rintro e w2 ⟨t', x', l2, rfl, hbad', hb2⟩
      obtain ⟨hq1, hq2⟩ := (hb1.trans hb2).five hrn
      unfold nodeV zeroN
      go_wp2
      refine bodyPost_ret (v := .tuple #[nodeV zeroN, .iface t' x']) (by simp [results, Tryz.results107, go_sem, hq1, nodeV, zeroN, empty]; try rfl) rfl ⟨_, _, l2, rfl, hbad', ?_⟩
      repeat (refine Adv.setNew ?_ _ _ (Nat.le_refl _) hrn)
      exact (hb0 _).trans (hb1.trans hb2)
    · rw [if_neg h0] at hp
      by_cases h1 : c = 1
      · subst h1
        rw [if_pos rfl] at hp
        have hk2 := fun w hS hc hf => branch_bad A B rb l w hS hB hp hl' hc hf
        clear hp hc hf h0
        go_enter Tryz.func107, Tryz.ntmps107
        go_wp2_with fail
        refine (hk1 _ (hb0 _).rest (hb0 _).mark).mono ?_
        rintro e w1 ⟨rfl, hb1⟩
        have hc1 := hb1.rest
        have hf1 := hb1.mark
        have hS1 := hS.to (((hb0 _).trans hb1).below hB hS.size)
        go_wp2_with fail
        refine (hk2 _ hS1 hc1 hf1).mono ?_
        rintro e w2 ⟨t', x', l2, rfl, hbad', hb2⟩
        obtain ⟨hq1, hq2⟩ := (hb1.trans hb2).five hrn
        unfold nodeV zeroN
        go_wp2
        refine bodyPost_ret (v := .tuple #[nodeV zeroN, .iface t' x']) (by simp [results, Tryz.results107, go_sem, hq1, nodeV, zeroN, empty]; try rfl) rfl ⟨_, _, l2, rfl, hbad', ?_⟩
        repeat (refine Adv.setNew ?_ _ _ (Nat.le_refl _) hrn)
        exact (hb0 _).trans (hb1.trans hb2)
      · rw [if_neg h1] at hp
        by_cases h2 : c = 2
        · rw [if_pos h2] at hp; cases hp
        · have hkind : Bad A (.iface 423 (.pointer (some (A 6)))) := Bad.base _ (by decide)
          have n0 := ne_of_u8 (n := 0) h0 (by omega)
          have n1 := ne_of_u8 (n := 1) h1 (by omega)
          have n2 := ne_of_u8 (n := 2) h2 (by omega)
          have h8 := c.toNat_lt
          clear hp hc hf h0 h1 h2
          go_enter Tryz.func107, Tryz.ntmps107
          go_wp2_with fail
          refine (hk1 _ (hb0 _).rest (hb0 _).mark).mono ?_
          rintro e w1 ⟨rfl, hb1⟩
          have hv := (hS.to (((hb0 _).trans hb1).below hB hS.size)).all
          go_wp2_with fail
          refine (at_bad (A := A) _ _ _ hkind).mono ?_
          rintro e w' ⟨t', x', rfl, hbad', rfl⟩
          obtain ⟨hq1, hq2⟩ := hb1.five hrn
          go_wp2
          refine bodyPost_ret (v := .tuple #[nodeV zeroN, .iface t' x']) (by simp [results, Tryz.results107, go_sem, hq1, nodeV, zeroN, empty]; try rfl) rfl ⟨_, _, l, rfl, hbad', ?_⟩
          repeat (refine Adv.setNew ?_ _ _ (Nat.le_refl _) hrn)
          exact (hb0 _).trans hb1

theorem end_ok (rb : Nat) (w : World) (hc : w.cell? ⟨rb, 0, none⟩ = some (.string (S []))) :
    Calls Tryz.prog 103 #[.pointer (some ⟨rb, 0, none⟩)] w fun e w' => e = .returned .nilIface ∧ w' = w := by
  unfold S at hc
  go_enter Tryz.func103, Tryz.ntmps103
  go_wp2
  go_ret
  exact ⟨rfl, rfl⟩
theorem end_bad (A : Nat → Addr) (B : Nat) (rb : Nat) (c : UInt8) (l : List UInt8) (w : World) (hS : Sents A B w) (hc : w.cell? ⟨rb, 0, none⟩ = some (.string (S (c :: l)))) :
    Calls Tryz.prog 103 #[.pointer (some ⟨rb, 0, none⟩)] w fun e w' => ∃ t x, e = .returned (.iface t x) ∧ Bad A (.iface t x) ∧ w' = w := by
  have hover : Bad A (.iface 423 (.pointer (some (A 2)))) := Bad.base _ (by decide)
  have hv := hS.all
  have he : (S (c :: l)).toList.isEmpty = false := by rw [Lib.toList_data, S_list]; rfl
  go_enter Tryz.func103, Tryz.ntmps103
  go_wp2_with (go_at_call 100; refine (at_bad (A := A) _ _ _ hover).mono ?_; rintro e w' ⟨t', x', rfl, hbad', rfl⟩)
  go_ret
  exact ⟨_, _, rfl, hbad', rfl⟩

end Go.Proofs.YtddcbeeldjjmeaaGreatDoor.Tw
