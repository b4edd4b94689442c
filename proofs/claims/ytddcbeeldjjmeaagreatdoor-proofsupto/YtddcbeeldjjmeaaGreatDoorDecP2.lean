/- The program's reader: a proof. -/
import Derived.Test.YtddcbeeldjjmeaaGreatDoorDecP
import Derived.Deep.OwnRows
namespace Go.Proofs.YtddcbeeldjjmeaaGreatDoor.Tw
open Go.RowKit Go.Proofs.YtddcbeeldjjmeaaGreatDoor.Pu Go.Deep
set_option linter.unusedVariables false
set_option linter.unusedSimpArgs false

/-- Cell i of a row of steps. -/
def cellU (F : Nat → Us) (i : Nat) : Value :=
  if i % 3 = 0 then .int .i64 (F (i / 3)).side else if i % 3 = 1 then .string (S (F (i / 3)).path) else .int .i64 (F (i / 3)).other
def UBlk (w : World) (g n : Nat) (F : Nat → Us) : Prop := w.rowIs g 28 (n * 3) (cellU F)
def zeroU : Us := ⟨0, [], 0⟩
theorem uinfo : (Tryz.prog.info? 28).map (fun i => (i.zero, i.size, i.bytes)) = some (some (.agg #[.int .i64 0, .string ⟨#[]⟩, .int .i64 0]), 3, 32) := by kernel_rfl
theorem UBlk.new (w : World) (n : Nat) : UBlk (w.alloc (.cells (madeCells (Value.agg #[.int .i64 0, .string ⟨#[]⟩, .int .i64 0]).cells (n * 3)) 28)) w.heap.size n (fun _ => zeroU) := by
  have hs : (madeCells (Value.agg #[.int .i64 0, .string ⟨#[]⟩, .int .i64 0]).cells (n * 3)).size = n * 3 := size_madeCells _ _
  have h := World.rowIs_alloc w (madeCells (Value.agg #[.int .i64 0, .string ⟨#[]⟩, .int .i64 0]).cells (n * 3)) 28 (cellU fun _ => zeroU) (fun i hi => by
    rw [hs] at hi
    unfold madeCells
    simp only [Array.getElem?_map, Array.getElem?_range, hi, if_true, Option.map_some, Value.cells]
    have h3 : i % 3 = 0 ∨ i % 3 = 1 ∨ i % 3 = 2 := by omega
    unfold cellU zeroU
    rcases h3 with e | e | e <;> simp [e, S])
  rw [hs] at h
  exact h
theorem UBlk.lt {w : World} {g n : Nat} {F : Nat → Us} (h : UBlk w g n F) : g < w.heap.size := World.rowIs.lt h
theorem UBlk.keep {w w' : World} {g n : Nat} {F : Nat → Us} (h : UBlk w g n F) (e : w'.heap[g]? = w.heap[g]?) : UBlk w' g n F := World.rowIs.of_block h e
theorem UBlk.mark {w : World} {g n : Nat} {F : Nat → Us} (h : UBlk w g n F) (i : Nat) : w.frozen? ⟨g, i, none⟩ = false := World.rowIs.frozen h i
theorem UBlk.cells {w : World} {g n : Nat} {F : Nat → Us} (h : UBlk w g n F) (j : Nat) (hj : j < n) : w.cell? ⟨g, j * 3, none⟩ = some (.int .i64 (F j).side) ∧ w.cell? ⟨g, j * 3 + 1, none⟩ = some (.string (S (F j).path)) ∧ w.cell? ⟨g, j * 3 + 2, none⟩ = some (.int .i64 (F j).other) := by
  refine ⟨?_, ?_, ?_⟩
  · rw [World.rowIs.cell h (i := j * 3) (by omega)]
    unfold cellU
    rw [if_pos (by omega), show j * 3 / 3 = j from by omega]
  · rw [World.rowIs.cell h (i := j * 3 + 1) (by omega)]
    unfold cellU
    rw [if_neg (by omega), if_pos (by omega), show (j * 3 + 1) / 3 = j from by omega]
  · rw [World.rowIs.cell h (i := j * 3 + 2) (by omega)]
    unfold cellU
    rw [if_neg (by omega), if_neg (by omega), show (j * 3 + 2) / 3 = j from by omega]
theorem UBlk.put {w : World} {g n : Nat} {F : Nat → Us} (h : UBlk w g n F) (j : Nat) (u : Us) :
    UBlk (((w.setCell ⟨g, j * 3, none⟩ (.int .i64 u.side)).setCell ⟨g, j * 3 + 1, none⟩ (.string (S u.path))).setCell ⟨g, j * 3 + 2, none⟩ (.int .i64 u.other)) g n (fun i => if i = j then u else F i) := by
  unfold UBlk at h ⊢
  refine World.rowIs.congr (((World.rowIs.set h (j * 3) _).set (j * 3 + 1) _).set (j * 3 + 2) _) fun i hi => ?_
  unfold cellU
  dsimp only
  by_cases e : i / 3 = j
  · have h3 : i = j * 3 ∨ i = j * 3 + 1 ∨ i = j * 3 + 2 := by omega
    rcases h3 with rfl | rfl | rfl
    · rw [if_neg (by omega), if_neg (by omega), if_pos rfl, if_pos (by omega), if_pos e]
    · rw [if_neg (by omega), if_pos rfl, if_neg (by omega), if_pos (by omega), if_pos e]
    · rw [if_pos rfl, if_neg (by omega), if_neg (by omega), if_pos e]
  · rw [if_neg (by omega), if_neg (by omega), if_neg (by omega), if_neg e]

theorem make_ups (n : Nat) (hn : n ≤ 37) (M : Array Value) (hM : M = madeCells (Value.agg #[.int .i64 0, .string ⟨#[]⟩, .int .i64 0]).cells (n * 3)) : ∀ W : World, (Instr.makeSlice 24 (.int .i64 (n : Int)) (.int .i64 (n : Int))).run Tryz.prog W = .ok (.slice (some ⟨W.heap.size, 0, none⟩) n n) (W.alloc (.cells M 28)) := fun W => by
  obtain ⟨i0, hi, hz0, hz1, hz2⟩ := info_parts uinfo
  have h := run_make (P := Tryz.prog) W 24 28 i0 (.agg #[.int .i64 0, .string ⟨#[]⟩, .int .i64 0]) Tryz.underlying24 hi hz0 .i64 .i64 (n : Int) (n : Int) (by omega) (by omega) (by rw [hz2]; omega) (by omega)
  rw [hz1, Int.toNat_natCast, ← hM] at h
  exact h

theorem pUs_step (n : Nat) (l r : List UInt8) (us : List Us) (h : pUs (n + 1) l = some (us, r)) : ∃ (u : Us) (l1 : List UInt8) (es : List Us), pU l = some (u, l1) ∧ pUs n l1 = some (es, r) ∧ us = u :: es := by
  rw [pUs_succ] at h
  cases hd : pU l with
  | none => rw [hd] at h; cases h
  | some x =>
    obtain ⟨d, l1⟩ := x
    rw [hd] at h
    dsimp only at h
    cases hr : pUs n l1 with
    | none => rw [hr] at h; cases h
    | some y =>
      obtain ⟨es, r'⟩ := y
      rw [hr] at h
      simp only [Option.some.injEq, Prod.mk.injEq] at h
      obtain ⟨rfl, rfl⟩ := h
      exact ⟨d, l1, es, rfl, hr, rfl⟩
theorem pUs_nostep (n : Nat) (l : List UInt8) (h : pUs (n + 1) l = none) : pU l = none ∨ ∃ (u : Us) (l1 : List UInt8), pU l = some (u, l1) ∧ pUs n l1 = none := by
  rw [pUs_succ] at h
  cases hd : pU l with
  | none => exact Or.inl rfl
  | some x =>
    obtain ⟨d, l1⟩ := x
    rw [hd] at h
    dsimp only at h
    cases hr : pUs n l1 with
    | none => exact Or.inr ⟨d, l1, rfl, hr⟩
    | some y =>
      obtain ⟨es, r'⟩ := y
      rw [hr] at h
      cases h

/-- The six cells of a struct that was laid ahead of a reader's steps. -/
theorem Adv.six {a : Addr} {l : List UInt8} {w w1 : World} {c0 c1 c2 c3 c4 c5 : Value} {t : TypeId} (h : Adv a l (w.alloc (.cells #[c0, c1, c2, c3, c4, c5] t)) w1) (hn : w.heap.size ≠ a.block) :
    (w1.cell? ⟨w.heap.size, 0, none⟩ = some c0 ∧ w1.cell? ⟨w.heap.size, 1, none⟩ = some c1 ∧ w1.cell? ⟨w.heap.size, 2, none⟩ = some c2 ∧ w1.cell? ⟨w.heap.size, 3, none⟩ = some c3 ∧ w1.cell? ⟨w.heap.size, 4, none⟩ = some c4 ∧ w1.cell? ⟨w.heap.size, 5, none⟩ = some c5) ∧
    ∀ o, w1.frozen? ⟨w.heap.size, o, none⟩ = false := by
  obtain ⟨h1, h2⟩ := h.cells w.heap.size (by simp) hn
  refine ⟨⟨?_, ?_, ?_, ?_, ?_, ?_⟩, ?_⟩
  · rw [h1]; simp
  · rw [h1]; simp
  · rw [h1]; simp
  · rw [h1]; simp
  · rw [h1]; simp
  · rw [h1]; simp
  · intro o; rw [h2]; exact World.frozen?_alloc_new _ _ _ _

/-- Five, and six, cells of a block, as a reader's steps leave them. -/
def K5 (b : Nat) (c0 c1 c2 c3 c4 : Value) (w : World) : Prop :=
  w.cell? ⟨b, 0, none⟩ = some c0 ∧ w.cell? ⟨b, 1, none⟩ = some c1 ∧ w.cell? ⟨b, 2, none⟩ = some c2 ∧ w.cell? ⟨b, 3, none⟩ = some c3 ∧ w.cell? ⟨b, 4, none⟩ = some c4
def K6 (b : Nat) (c0 c1 c2 c3 c4 c5 : Value) (w : World) : Prop :=
  (w.cell? ⟨b, 0, none⟩ = some c0 ∧ w.cell? ⟨b, 1, none⟩ = some c1 ∧ w.cell? ⟨b, 2, none⟩ = some c2 ∧ w.cell? ⟨b, 3, none⟩ = some c3 ∧ w.cell? ⟨b, 4, none⟩ = some c4 ∧ w.cell? ⟨b, 5, none⟩ = some c5) ∧ ∀ o, w.frozen? ⟨b, o, none⟩ = false
theorem K5.blk {w0 w1 : World} {b : Nat} {c0 c1 c2 c3 c4 : Value} (h5 : K5 b c0 c1 c2 c3 c4 w0) (e : w1.heap[b]? = w0.heap[b]?) : K5 b c0 c1 c2 c3 c4 w1 := by
  obtain ⟨k0, k1, k2, k3, k4⟩ := h5
  have k : ∀ o, w1.cell? ⟨b, o, none⟩ = w0.cell? ⟨b, o, none⟩ := fun o => World.cell?_of_block (w := w0) e
  exact ⟨(k _).trans k0, (k _).trans k1, (k _).trans k2, (k _).trans k3, (k _).trans k4⟩
theorem K6.blk {w0 w1 : World} {b : Nat} {c0 c1 c2 c3 c4 c5 : Value} (h5 : K6 b c0 c1 c2 c3 c4 c5 w0) (e : w1.heap[b]? = w0.heap[b]?) : K6 b c0 c1 c2 c3 c4 c5 w1 := by
  obtain ⟨⟨k0, k1, k2, k3, k4, k5⟩, hz⟩ := h5
  have k : ∀ o, w1.cell? ⟨b, o, none⟩ = w0.cell? ⟨b, o, none⟩ := fun o => World.cell?_of_block (w := w0) e
  exact ⟨⟨(k _).trans k0, (k _).trans k1, (k _).trans k2, (k _).trans k3, (k _).trans k4, (k _).trans k5⟩, fun o => (World.frozen?_of_block (w := w0) e).trans (hz o)⟩

theorem blk3 (w : World) (b g o1 o2 o3 : Nat) (v1 v2 v3 : Value) (hn : b ≠ g) : (((w.setCell ⟨g, o1, none⟩ v1).setCell ⟨g, o2, none⟩ v2).setCell ⟨g, o3, none⟩ v3).heap[b]? = w.heap[b]? :=
  (Below.heap_setCell _ _ _ _ hn).trans ((Below.heap_setCell _ _ _ _ hn).trans (Below.heap_setCell _ _ _ _ hn))
theorem UBlk.setO {w : World} {g n : Nat} {F : Nat → Us} (h : UBlk w g n F) (b o : Nat) (v : Value) (hn : g ≠ b) : UBlk (w.setCell ⟨b, o, none⟩ v) g n F := h.keep (Below.heap_setCell _ _ _ _ hn)

set_option maxRecDepth 20000 in
set_option maxHeartbeats 2000000 in
theorem prf_ok (A : Nat → Addr) (rb : Nat) (l r : List UInt8) (m : Nd) (us : List Us) (w : World) (hp : pP l = some (⟨m, us⟩, r)) (hl : l.length ≤ 9223372036854775807)
    (hc : w.cell? ⟨rb, 0, none⟩ = some (.string (S l))) (hf : w.frozen? ⟨rb, 0, none⟩ = false) :
    Calls Tryz.prog 102 #[.pointer (some ⟨rb, 0, none⟩)] w fun e w' => ∃ g F, e = .returned (.tuple #[.agg #[.int .i64 m.kind, .string (S m.path), .string (S m.value), .int .i64 m.left, .int .i64 m.right, .slice (some ⟨g, 0, none⟩) us.length us.length], .nilIface]) ∧ w.heap.size ≤ g ∧ UBlk w' g us.length F ∧ (∀ i (h : i < us.length), F i = us[i]) ∧ Adv ⟨rb, 0, none⟩ r w w' := by
  have hnn := neq_nil
  have hrb : rb < w.heap.size := cell_lt hc
  have hrn : w.heap.size ≠ rb := by omega
  have hb0 : ∀ o, Adv ⟨rb, 0, none⟩ l w (w.alloc o) := fun o => (Adv.refl hc hf).alloc o hrb
  unfold pP at hp
  cases h1 : pBot l with
  | none => rw [h1] at hp; cases hp
  | some x =>
    obtain ⟨m', l1⟩ := x
    rw [h1] at hp
    dsimp only at hp
    cases h2 : pNum l1 with
    | none => rw [h2] at hp; cases hp
    | some y =>
      obtain ⟨n, l2⟩ := y
      rw [h2] at hp
      dsimp only at hp
      by_cases hn : 37 < n
      · rw [if_pos hn] at hp; cases hp
      · rw [if_neg hn] at hp
        cases h3 : pUs n l2 with
        | none => rw [h3] at hp; cases hp
        | some z =>
          obtain ⟨us', l3⟩ := z
          rw [h3] at hp
          simp only [Option.some.injEq, Prod.mk.injEq, Pf.mk.injEq] at hp
          obtain ⟨⟨rfl, rfl⟩, rfl⟩ := hp
          have hl1 := Nat.le_trans (pBot_rest _ _ _ h1) hl
          have hl2 := Nat.le_trans (pNumR _ _ _ h2) hl1
          obtain rfl : us'.length = n := (pUs_sound _ _ _ _ h3).2.1
          have hk1 := fun w hc hf => bot_ok A rb l l1 m' w h1 hl hc hf
          have hk2 := fun w hc hf => number_ok rb l1 l2 us'.length w h2 hl1 hc hf
          have hk3 := fun w => steps_bound (us'.length : Int) true w (by simp; omega)
          obtain ⟨M, hM⟩ : ∃ M, M = madeCells (Value.agg #[.int .i64 0, .string ⟨#[]⟩, .int .i64 0]).cells (us'.length * 3) := ⟨_, rfl⟩
          have hmk := make_ups us'.length (by omega) M hM
          have HM : Hid _ := hM
          have HP : Hid _ := h3
          clear h1 h2 h3 hc hf hM
          unfold nodeV at hk1
          go_enter Tryz.func102, Tryz.ntmps102
          go_wp2_with fail
          refine (hk1 _ (hb0 _).rest (hb0 _).mark).mono ?_
          rintro e w1 ⟨rfl, hb1⟩
          have hc1 := hb1.rest
          have hf1 := hb1.mark
          have hA1 := (hb0 _).trans hb1
          obtain ⟨hq1, hqz⟩ := hb1.six hrn
          have hz1 : w.heap.size < w1.heap.size := by have := hb1.size; simp at this; omega
          have hn1 : w1.heap.size ≠ rb := by omega
          have hr1 : rb < w1.heap.size := by omega
          have hb1a : ∀ o, Adv ⟨rb, 0, none⟩ l1 w1 (w1.alloc o) := fun o => (Adv.refl hc1 hf1).alloc o hr1
          have hk6 : K6 w.heap.size (.int .i64 0) (.string ⟨#[]⟩) (.string ⟨#[]⟩) (.int .i64 0) (.int .i64 0) (.slice none 0 0) w1 := ⟨hq1, hqz⟩
          clear hk1 hb1 hc1 hf1 hq1 hqz
          go_wp2_with fail
          refine (hk2 _ (hb1a _).rest (hb1a _).mark).mono ?_
          rintro e w2 ⟨rfl, hb2⟩
          have hA2 := hA1.trans ((hb1a _).trans hb2)
          have hk5 : K5 w1.heap.size (.int .i64 m'.kind) (.string (S m'.path)) (.string (S m'.value)) (.int .i64 m'.left) (.int .i64 m'.right) w2 := (hb2.five hn1).1
          have hz2 : w1.heap.size < w2.heap.size := by have := hb2.size; simp at this; omega
          have hk6' := hk6.blk (((hb1a _).trans hb2).block w.heap.size hz1 hrn)
          clear hk2 hb1a hb2 hk6 hA1
          go_wp2_with fail
          refine (hk3 _).mono ?_
          rintro e w' ⟨rfl, rfl⟩
          go_wp2_with fail
          obtain ⟨g, hg⟩ : ∃ g, g = w'.heap.size := ⟨_, rfl⟩
          obtain ⟨wm, hwm⟩ : ∃ wm, wm = w'.alloc (.cells M 28) := ⟨_, rfl⟩
          have hrow : UBlk wm g us'.length (fun _ => zeroU) := by rw [hwm, hg, HM.out]; exact UBlk.new w' _
          have hgr : g ≠ rb := by have := hA2.size; omega
          have hgw : w.heap.size < g := by omega
          have hg1 : w1.heap.size < g := by omega
          have hA3 : Adv ⟨rb, 0, none⟩ l2 w wm := by rw [hwm]; exact hA2.alloc _ (cell_lt hA2.rest)
          have hk5 : K5 w1.heap.size (.int .i64 m'.kind) (.string (S m'.path)) (.string (S m'.value)) (.int .i64 m'.left) (.int .i64 m'.right) wm := by rw [hwm]; exact hk5.blk (Below.heap_alloc _ _ _ hz2)
          have hk6 : K6 w.heap.size (.int .i64 0) (.string ⟨#[]⟩) (.string ⟨#[]⟩) (.int .i64 0) (.int .i64 0) (.slice none 0 0) wm := by rw [hwm]; exact hk6'.blk (Below.heap_alloc _ _ _ (by omega))
          have hne1 : w1.heap.size ≠ g := by omega
          have hne2 : w.heap.size ≠ g := by omega
          have hne3 : w.heap.size ≠ w1.heap.size := by omega
          rw [← hwm, ← hg]
          clear hg hwm hmk hA2 hk6' hz2 hk3
          go_loopw [5, 8, 39] (fun _ _ i wr => ∃ (j : Nat) (lj : List UInt8) (F : Nat → Us), j ≤ us'.length ∧ i = .int .i64 j ∧ Hid (pUs (us'.length - j) lj = some (us'.drop j, l3)) ∧ lj.length ≤ 9223372036854775807 ∧ UBlk wr g us'.length F ∧ Hid (∀ (i : Nat) (h : i < us'.length), i < j → F i = us'[i]) ∧ K5 w1.heap.size (.int .i64 m'.kind) (.string (S m'.path)) (.string (S m'.value)) (.int .i64 m'.left) (.int .i64 m'.right) wr ∧ K6 w.heap.size (.int .i64 0) (.string ⟨#[]⟩) (.string ⟨#[]⟩) (.int .i64 0) (.int .i64 0) (.slice none 0 0) wr ∧ Adv ⟨rb, 0, none⟩ lj w wr) (fun _ _ i _ => (us'.length - intOf i).toNat)
          case atStart => exact ⟨0, l2, _, by omega, rfl, HP.out, hl2, hrow, fun i _ hi => absurd hi (Nat.not_lt_zero i), hk5, hk6, hA3⟩
          case round =>
            obtain ⟨j, lj, F, hj, rfl, hpj, hlj, hrw, hF, h5, h6, hb⟩ := hrel
            by_cases hjn : j < us'.length
            · have hpj' := hpj.out
              rw [show us'.length - j = (us'.length - j - 1) + 1 from by omega] at hpj'
              obtain ⟨u, l4, es, e1, e2, e3⟩ := pUs_step _ _ _ _ hpj'
              have huj : us'[j]? = some u := by
                have := congrArg (·[0]?) e3
                simpa using this
              have hes : es = us'.drop (j + 1) := by
                have := congrArg (List.drop 1) e3
                rw [List.drop_drop] at this
                simpa [Nat.add_comm] using this.symm
              have hq := up_ok A rb lj l4 u wr e1 hlj hb.rest hb.mark
              have hl4 : l4.length ≤ 9223372036854775807 := Nat.le_trans (pU_rest _ _ _ e1) hlj
              have E2 : Hid _ := e2
              have E3 : Hid _ := huj
              have E4 : Hid _ := hes
              clear e1 e2 e3 huj hes hpj' hpj
              unfold upV at hq
              go_wp2_with fail
              refine hq.mono ?_
              rintro e w4 ⟨rfl, hb1⟩
              have hrw1 := hrw.keep (hb1.block g hrw.lt hgr)
              have h5' := h5.blk (hb1.block w1.heap.size (by have := hrw.lt; omega) hn1)
              have h6' := h6.blk (hb1.block w.heap.size (by have := hrw.lt; omega) hrn)
              obtain ⟨⟨v0, hv0⟩, ⟨v1, hv1⟩, v2, hv2⟩ : (∃ v0, w4.cell? ⟨g, j * 3, none⟩ = some v0) ∧ (∃ v1, w4.cell? ⟨g, j * 3 + 1, none⟩ = some v1) ∧ ∃ v2, w4.cell? ⟨g, j * 3 + 2, none⟩ = some v2 := by
                obtain ⟨c0, c1, c2⟩ := hrw1.cells j hjn
                exact ⟨⟨_, c0⟩, ⟨_, c1⟩, _, c2⟩
              have hm0 := hrw1.mark
              have hput := hrw1.put j u
              have hb2 := hb.trans hb1
              clear hb hb1 hrw hrw1 hq h5 h6
              go_wp2_with fail
              refine ⟨⟨j + 1, l4, _, by omega, by go_num, ?_, hl4, hput, ?_, h5'.blk (blk3 _ _ _ _ _ _ _ _ _ hne1), h6'.blk (blk3 _ _ _ _ _ _ _ _ _ hne2), ?_⟩, by simp [intOf]; omega⟩
              · rw [show us'.length - (j + 1) = us'.length - j - 1 from by omega, ← E4.out]; exact E2.out
              · intro i hi hij
                by_cases e : i = j
                · subst e
                  have := E3.out
                  rw [List.getElem?_eq_getElem hi] at this
                  simp only [if_true]
                  exact (Option.some.inj this).symm
                · rw [if_neg e]
                  exact hF.out i hi (by omega)
              · refine Adv.setNew (Adv.setNew (Adv.setNew hb2 _ _ ?_ hgr) _ _ ?_ hgr) _ _ ?_ hgr
                · exact Nat.le_of_lt hgw
                · exact Nat.le_of_lt hgw
                · exact Nat.le_of_lt hgw
            · obtain rfl : j = us'.length := by omega
              have HR : Hid _ := hrw
              have HB : Hid _ := hb
              obtain ⟨c50, c51, c52, c53, c54⟩ := h5
              obtain ⟨c6, c6z⟩ := h6
              clear hrw hb
              go_wp2_with fail
              refine bodyPost_ret (v := .tuple #[.agg #[.int .i64 m'.kind, .string (S m'.path), .string (S m'.value), .int .i64 m'.left, .int .i64 m'.right, .slice (some ⟨g, 0, none⟩) us'.length us'.length], .nilIface]) (by simp [results, Tryz.results102, go_sem, c6]; try rfl) rfl ⟨g, F, rfl, Nat.le_of_lt hgw, ?_, fun i h => hF.out i h h, ?_⟩
              · repeat (refine UBlk.setO ?_ _ _ _ (fun e => hne2 e.symm))
                exact HR.out
              · repeat (refine Adv.setNew ?_ _ _ (Nat.le_refl _) hrn)
                have h := hpj.out
                rw [Nat.sub_self] at h
                simp only [pUs, Option.some.injEq, Prod.mk.injEq] at h
                rw [← h.2]
                exact HB.out
end Go.Proofs.YtddcbeeldjjmeaaGreatDoor.Tw
