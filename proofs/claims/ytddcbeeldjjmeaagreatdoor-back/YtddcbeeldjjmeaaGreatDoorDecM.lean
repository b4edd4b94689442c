/- The program's reader: digests of a manifest. -/
import Derived.Test.YtddcbeeldjjmeaaGreatDoorManNo
import Derived.Test.YtddcbeeldjjmeaaGreatDoorDec
namespace Go.Proofs.YtddcbeeldjjmeaaGreatDoor.Tw
open Go.RowKit Go.Proofs.YtddcbeeldjjmeaaGreatDoor.Pu
set_option linter.unusedVariables false
set_option linter.unusedSimpArgs false

/-- Block g is a row of the ints l. -/
def NRow (w : World) (g : Nat) (l : List Int) : Prop := w.heap[g]? = some (.cells (l.map fun n => Value.int .i64 n).toArray 3 (0, 0))
theorem NRow.lt {w : World} {g : Nat} {l : List Int} (h : NRow w g l) : g < w.heap.size := by
  by_cases hb : g < w.heap.size
  · exact hb
  · have : w.heap[g]? = none := by simp; omega
    unfold NRow at h; rw [this] at h; cases h
theorem NRow.cell {w : World} {g : Nat} {l : List Int} (h : NRow w g l) (k : Nat) (hk : k < l.length) : w.cell? ⟨g, k, none⟩ = some (.int .i64 (l[k]'hk)) := by
  unfold NRow at h
  simp [World.cell?, h, hk]
theorem NRow.mark {w : World} {g : Nat} {l : List Int} (h : NRow w g l) (k : Nat) : w.frozen? ⟨g, k, none⟩ = false := by
  unfold NRow at h
  simp [World.frozen?, h]
theorem NRow.keep {w w' : World} {g : Nat} {l : List Int} (h : NRow w g l) (e : w'.heap[g]? = w.heap[g]?) : NRow w' g l := by
  unfold NRow at h ⊢; rw [e]; exact h
theorem NRow.set {w : World} {g : Nat} {l : List Int} (h : NRow w g l) (k : Nat) (c : Int) : NRow (w.setCell ⟨g, k, none⟩ (.int .i64 c)) g (l.set k c) := by
  unfold NRow at h ⊢
  have hg := NRow.lt h
  simp [World.setCell, Array.getElem?_modify, h, List.map_set]
theorem cellsN_rep (n : Nat) : madeCells (Value.int .i64 0).cells n = ((List.replicate n (0 : Int)).map fun n => Value.int .i64 n).toArray := by
  apply Array.ext'
  apply List.ext_getElem
  · simp [madeCells, Value.cells]
  · intro i h1 h2
    simp [madeCells, Value.cells, Nat.mod_one]
theorem NRow.new (w : World) (n : Nat) : NRow (w.alloc (.cells (madeCells (Value.int .i64 0).cells n) 3)) w.heap.size (List.replicate n 0) := by
  unfold NRow
  rw [cellsN_rep]
  exact heap_alloc_new w _
theorem NRow.irow {w : World} {g : Nat} {l : List Int} (h : NRow w g l) (cap : Nat) : IRow w (.slice (some ⟨g, 0, none⟩) l.length cap) l := by
  refine ⟨_, cap, rfl, fun i hi => ⟨_, rfl, ?_⟩⟩
  have ea : (⟨g, 0, none⟩ : Addr).add i = ⟨g, i, none⟩ := by cases i <;> simp [Addr.add]
  rw [ea]
  exact h.cell i hi
theorem i64info : (Tryz.prog.info? 3).map (fun i => (i.zero, i.size, i.bytes)) = some (some (.int .i64 0), 1, 8) := by kernel_rfl

set_option maxHeartbeats 400000 in
theorem dig_ok (rb : Nat) (k : Nat) (hk1 : 1 ≤ k) (hk2 : k ≤ 32) (l r : List UInt8) (n : Nat) (w : World) (hp : pDig k l = some (n, r)) (hl : l.length ≤ 9223372036854775807)
    (hc : w.cell? ⟨rb, 0, none⟩ = some (.string (S l))) (hf : w.frozen? ⟨rb, 0, none⟩ = false) :
    Calls Tryz.prog 164 #[.pointer (some ⟨rb, 0, none⟩), .int .i64 k] w fun e w' => e = .returned (.tuple #[.int .i64 n, .nilIface]) ∧ Adv ⟨rb, 0, none⟩ r w w' := by
  have hnn := neq_nil
  obtain ⟨e1, h2⟩ := pDig_sound _ _ _ _ hp
  have hp4 : p4 l = some (n, r) := by rw [e1]; exact p4_e n r (Nat.lt_of_lt_of_le h2 (pow_le32 k hk2))
  have hq := four_ok rb l r n w hp4 hl hc hf
  have hb := fun w => digest_bound k hk1 hk2 (n : Int) true w (okD_of k n h2).symm
  clear hp hp4 e1 hc hf
  go_enter Tryz.func164, Tryz.ntmps164
  go_wp2_with (first | (go_at_call 233; refine hq.mono ?_; rintro e w1 ⟨rfl, hb1⟩) | (go_at_call 162; refine (hb _).mono ?_; rintro e w' ⟨rfl, rfl⟩))
  go_ret2
  exact ⟨rfl, hb1⟩

set_option maxHeartbeats 400000 in
theorem dig_bad (A : Nat → Addr) (B : Nat) (rb : Nat) (k : Nat) (hk1 : 1 ≤ k) (hk2 : k ≤ 32) (l : List UInt8) (w : World) (hS : Sents A B w) (hB : B ≤ rb) (hp : pDig k l = none) (hl : l.length ≤ 9223372036854775807)
    (hc : w.cell? ⟨rb, 0, none⟩ = some (.string (S l))) (hf : w.frozen? ⟨rb, 0, none⟩ = false) :
    Calls Tryz.prog 164 #[.pointer (some ⟨rb, 0, none⟩), .int .i64 k] w fun e w' => Fails A rb w (.int .i64 0) e w' := by
  have hnn := neq_nil
  have hhd := neq_held
  unfold pDig at hp
  cases h4 : p4 l with
  | none =>
    have hq := four_bad A B rb l w hS h4 hl hc hf
    clear hp h4 hc hf
    go_enter Tryz.func164, Tryz.ntmps164
    go_wp2_with fail
    refine hq.mono ?_
    rintro e w1 ⟨t, x, rfl, hbad, hb1⟩
    go_wp2
    go_ret2
    exact ⟨_, _, _, rfl, hbad, hb1⟩
  | some y =>
    obtain ⟨n, r⟩ := y
    rw [h4] at hp
    simp only at hp
    by_cases hn : n < 2 ^ k
    · rw [if_pos hn] at hp; cases hp
    · have hq := four_ok rb l r n w h4 hl hc hf
      have hno : okD k (n : Int) = false := by
        cases h : okD k (n : Int) with
        | false => rfl
        | true =>
          have := (okD_nat k n h).1
          simp only [Int.toNat_natCast] at this
          exact absurd this hn
      have hb := fun w => digest_bound k hk1 hk2 (n : Int) false w hno.symm
      have hbad : Bad A (.iface 423 (.pointer (some (A 14)))) := Bad.base _ (by decide)
      clear hp h4 hno hn hc hf
      go_enter Tryz.func164, Tryz.ntmps164
      go_wp2_with fail
      refine hq.mono ?_
      rintro e w1 ⟨rfl, hb1⟩
      have hv := (hS.to (hb1.below hB hS.size)).all
      go_wp2_with fail
      refine (hb _).mono ?_
      rintro e w' ⟨rfl, rfl⟩
      go_wp2_with fail
      go_quiet (fail)
      go_wp2
      go_ret2
      exact ⟨_, _, _, rfl, hbad, hb1.drewN _⟩

theorem pDs_step (k n : Nat) (l r : List UInt8) (ds : List Int) (h : pDs k (n + 1) l = some (ds, r)) : ∃ (d : Nat) (l1 : List UInt8) (es : List Int), pDig k l = some (d, l1) ∧ pDs k n l1 = some (es, r) ∧ ds = (d : Int) :: es := by
  rw [pDs_succ] at h
  cases hd : pDig k l with
  | none => rw [hd] at h; cases h
  | some x =>
    obtain ⟨d, l1⟩ := x
    rw [hd] at h
    simp only at h
    cases hr : pDs k n l1 with
    | none => rw [hr] at h; cases h
    | some y =>
      obtain ⟨es, r'⟩ := y
      rw [hr] at h
      simp only [Option.some.injEq, Prod.mk.injEq] at h
      obtain ⟨rfl, rfl⟩ := h
      exact ⟨d, l1, es, rfl, hr, rfl⟩
theorem pDs_nostep (k n : Nat) (l : List UInt8) (h : pDs k (n + 1) l = none) : pDig k l = none ∨ ∃ (d : Nat) (l1 : List UInt8), pDig k l = some (d, l1) ∧ pDs k n l1 = none := by
  rw [pDs_succ] at h
  cases hd : pDig k l with
  | none => exact Or.inl rfl
  | some x =>
    obtain ⟨d, l1⟩ := x
    rw [hd] at h
    simp only at h
    cases hr : pDs k n l1 with
    | none => exact Or.inr ⟨d, l1, rfl, hr⟩
    | some y =>
      obtain ⟨es, r'⟩ := y
      rw [hr] at h
      cases h
theorem pDig_rest (k : Nat) (l l1 : List UInt8) (d : Nat) (h : pDig k l = some (d, l1)) : l1.length ≤ l.length := by
  rw [(pDig_sound _ _ _ _ h).1, List.length_append]; omega

theorem make_ints (n : Nat) (hn : n ≤ 100000) (M : Array Value) (hM : M = madeCells (Value.int .i64 0).cells n) : ∀ W : World, (Instr.makeSlice 42 (.int .i64 (n : Int)) (.int .i64 (n : Int))).run Tryz.prog W = .ok (.slice (some ⟨W.heap.size, 0, none⟩) n n) (W.alloc (.cells M 3)) := fun W => by
  obtain ⟨i0, hi, hz0, hz1, hz2⟩ := info_parts i64info
  have h := run_make (P := Tryz.prog) W 42 3 i0 (.int .i64 0) Tryz.underlying42 hi hz0 .i64 .i64 (n : Int) (n : Int) (by omega) (by omega) (by rw [hz2]; omega) (by omega)
  rw [hz1, Int.toNat_natCast, Nat.mul_one, ← hM] at h
  exact h

theorem row_set (ds : List Int) (n j : Nat) (d : Int) (hj : j < n) (hd : ds[j]? = some d) : (ds.take j ++ List.replicate (n - j) 0).set j d = ds.take (j + 1) ++ List.replicate (n - (j + 1)) 0 := by
  have hjl : j < ds.length := (List.getElem?_eq_some_iff.1 hd).1
  have e1 : n - j = (n - (j + 1)) + 1 := by omega
  rw [e1, List.replicate_succ, List.set_append_right _ _ (by rw [List.length_take]; omega), List.length_take, Nat.min_eq_left (by omega), Nat.sub_self, List.set_cons_zero, List.take_add_one, hd]
  simp

set_option maxRecDepth 20000 in
set_option maxHeartbeats 1000000 in
theorem digs_ok (rb : Nat) (k n : Nat) (hk1 : 1 ≤ k) (hk2 : k ≤ 32) (hn : n ≤ 100000) (l r : List UInt8) (ds : List Int) (w : World) (hp : pDs k n l = some (ds, r)) (hl : l.length ≤ 9223372036854775807)
    (hc : w.cell? ⟨rb, 0, none⟩ = some (.string (S l))) (hf : w.frozen? ⟨rb, 0, none⟩ = false) :
    Calls Tryz.prog 166 #[.pointer (some ⟨rb, 0, none⟩), .int .i64 k, .int .i64 n] w fun e w' => ∃ g, e = .returned (.tuple #[.slice (some ⟨g, 0, none⟩) n n, .nilIface]) ∧ w.heap.size ≤ g ∧ NRow w' g ds ∧ Adv ⟨rb, 0, none⟩ r w w' := by
  have hnn := neq_nil
  have hlen := (pDs_sound k n l r ds hp).2.1
  obtain ⟨M, hM⟩ : ∃ M, M = madeCells (Value.int .i64 0).cells n := ⟨_, rfl⟩
  have hmk := make_ints n hn M hM
  have HM : Hid _ := hM
  have hrb : rb < w.heap.size := cell_lt hc
  have hb0 : Adv ⟨rb, 0, none⟩ l w w := Adv.refl hc hf
  have HP : Hid _ := hp
  have HL : Hid _ := hlen
  clear hM hp hlen hc hf
  go_enter Tryz.func166, Tryz.ntmps166
  go_wp2_with fail
  obtain ⟨g, hg⟩ : ∃ g, g = w.heap.size := ⟨_, rfl⟩
  obtain ⟨wm, hwm⟩ : ∃ wm, wm = w.alloc (.cells M 3) := ⟨_, rfl⟩
  have hrow : NRow wm g (ds.take 0 ++ List.replicate (n - 0) 0) := by rw [hwm, hg, HM.out]; simpa using NRow.new w n
  have hgr : g ≠ rb := by omega
  have hgw : w.heap.size ≤ g := by omega
  have hb4 : Adv ⟨rb, 0, none⟩ l w wm := by rw [hwm]; exact hb0.alloc _ hrb
  rw [← hwm, ← hg]
  clear hg hwm hmk hb0 hrb
  go_loopw [9, 10, 11, 16] (fun _ _ _ i wr => ∃ (j : Nat) (lj : List UInt8), j ≤ n ∧ i = .int .i64 j ∧ Hid (pDs k (n - j) lj = some (ds.drop j, r)) ∧ lj.length ≤ 9223372036854775807 ∧ NRow wr g (ds.take j ++ List.replicate (n - j) 0) ∧ Adv ⟨rb, 0, none⟩ lj w wr) (fun _ _ _ i _ => n - (intOf i).toNat)
  case atStart => exact ⟨0, l, by omega, rfl, HP.out, hl, hrow, hb4⟩
  case round =>
    obtain ⟨j, lj, hj, rfl, hpj, hlj, hrw, hb⟩ := hrel
    by_cases hjn : j < n
    · have hpj' := hpj.out
      rw [show n - j = (n - j - 1) + 1 from by omega] at hpj'
      obtain ⟨d, l1, es, e1, e2, e3⟩ := pDs_step _ _ _ _ _ hpj'
      have hdj : ds[j]? = some (d : Int) := by
        have := congrArg (·[0]?) e3
        simpa using this
      have hes : es = ds.drop (j + 1) := by
        have := congrArg (List.drop 1) e3
        rw [List.drop_drop] at this
        simpa [Nat.add_comm] using this.symm
      have hq := dig_ok rb k hk1 hk2 lj l1 d wr e1 hlj hb.rest hb.mark
      have hl1 : l1.length ≤ 9223372036854775807 := Nat.le_trans (pDig_rest _ _ _ _ e1) hlj
      have E2 : Hid _ := e2
      have E3 : Hid _ := hdj
      have E4 : Hid _ := hes
      clear e1 e2 e3 hdj hes hpj' hpj
      go_wp2_with fail
      refine hq.mono ?_
      rintro e w1 ⟨rfl, hb1⟩
      have hrw1 := hrw.keep (hb1.block g hrw.lt hgr)
      have hjd : j < ds.length := (List.getElem?_eq_some_iff.1 E3.out).1
      have hlenr : (ds.take j ++ List.replicate (n - j) 0).length = n := by rw [List.length_append, List.length_take, List.length_replicate]; omega
      obtain ⟨v0, hv0⟩ : ∃ v0, w1.cell? ⟨g, j, none⟩ = some v0 := ⟨_, hrw1.cell j (by omega)⟩
      have hmk := hrw1.mark j
      have hrs := hrw1.set j (d : Int)
      have hb2 := hb.trans hb1
      clear hb hb1 hrw hrw1 hq hlenr
      go_wp2_with fail
      go_roundw
      case rel =>
        refine ⟨j + 1, l1, by omega, by go_num, ?_, hl1, ?_, hb2.setNew _ _ hgw hgr⟩
        · rw [show n - (j + 1) = n - j - 1 from by omega, ← E4.out]; exact E2.out
        · rw [← row_set ds n j d hjn E3.out]; exact hrs
      case measure => simp [intOf]; omega
    · obtain rfl : j = n := by omega
      go_wp2
      go_ret2
      refine ⟨g, rfl, hgw, ?_, ?_⟩
      · rw [Nat.sub_self, List.take_of_length_le (by rw [HL.out]; exact Nat.le_refl _)] at hrw
        simpa using hrw
      · have h := hpj.out
        rw [Nat.sub_self] at h
        simp only [pDs, Option.some.injEq, Prod.mk.injEq] at h
        rw [← h.2]
        exact hb

set_option maxRecDepth 20000 in
set_option maxHeartbeats 1000000 in
theorem digs_bad (A : Nat → Addr) (B : Nat) (rb : Nat) (k n : Nat) (hk1 : 1 ≤ k) (hk2 : k ≤ 32) (hn : n ≤ 100000) (l : List UInt8) (w : World) (hS : Sents A B w) (hT : Tab w) (hTB : 23 < B) (hB : B ≤ rb) (hp : pDs k n l = none) (hl : l.length ≤ 9223372036854775807)
    (hc : w.cell? ⟨rb, 0, none⟩ = some (.string (S l))) (hf : w.frozen? ⟨rb, 0, none⟩ = false) :
    Calls Tryz.prog 166 #[.pointer (some ⟨rb, 0, none⟩), .int .i64 k, .int .i64 n] w fun e w' => Fails A rb w (.slice none 0 0) e w' := by
  have hnn := neq_nil
  have hhd := neq_held
  obtain ⟨M, hM⟩ : ∃ M, M = madeCells (Value.int .i64 0).cells n := ⟨_, rfl⟩
  have hmk := make_ints n hn M hM
  have HM : Hid _ := hM
  have hrb : rb < w.heap.size := cell_lt hc
  have hb0 : Adv ⟨rb, 0, none⟩ l w w := Adv.refl hc hf
  have HP : Hid _ := hp
  have hBs := hS.size
  clear hM hp hc hf
  go_enter Tryz.func166, Tryz.ntmps166
  go_wp2_with fail
  obtain ⟨g, hg⟩ : ∃ g, g = w.heap.size := ⟨_, rfl⟩
  obtain ⟨wm, hwm⟩ : ∃ wm, wm = w.alloc (.cells M 3) := ⟨_, rfl⟩
  have hrow : NRow wm g (List.replicate n 0) := by rw [hwm, hg, HM.out]; exact NRow.new w n
  have hgr : g ≠ rb := by omega
  have hgw : w.heap.size ≤ g := by omega
  have hb4 : Adv ⟨rb, 0, none⟩ l w wm := by rw [hwm]; exact hb0.alloc _ hrb
  rw [← hwm, ← hg]
  clear hg hwm hmk hb0 hrb
  go_loopw [9, 10, 11, 16] (fun _ _ _ i wr => ∃ (j : Nat) (lj : List UInt8) (zs : List Int), j ≤ n ∧ i = .int .i64 j ∧ Hid (pDs k (n - j) lj = none) ∧ lj.length ≤ 9223372036854775807 ∧ NRow wr g zs ∧ Hid (zs.length = n) ∧ Adv ⟨rb, 0, none⟩ lj w wr) (fun _ _ _ i _ => n - (intOf i).toNat)
  case atStart => exact ⟨0, l, _, by omega, rfl, HP.out, hl, hrow, List.length_replicate, hb4⟩
  case round =>
    obtain ⟨j, lj, zs, hj, rfl, hpj, hlj, hrw, hzl, hb⟩ := hrel
    by_cases hjn : j < n
    · have hpj' := hpj.out
      rw [show n - j = (n - j - 1) + 1 from by omega] at hpj'
      have hSr := hS.to (hb.below hB hBs)
      rcases pDs_nostep _ _ _ hpj' with e1 | ⟨d, l1, e1, e2⟩
      · have hq := dig_bad A B rb k hk1 hk2 lj wr hSr hB e1 hlj hb.rest hb.mark
        have hki := fun w hT => itoa_any (j : Int) w hT (by omega) (by omega)
        clear e1 hpj' hpj
        go_wp2_with fail
        refine hq.mono ?_
        rintro e w1 ⟨t, x, l1, rfl, hbad, hb1⟩
        have hb2 := hb.trans hb1
        have hT1 := hT.to (hb2.below hB hBs) hTB
        go_wp2_with fail
        refine (hki _ hT1).mono ?_
        rintro e w2 ⟨s, rfl, hs, hB2⟩
        have hss := catI { data := #[100, 105, 103, 101, 115, 116, 32] } s (by show 7 ≤ _; decide) (by omega)
        have hb3 := hb2.then hB2 (cell_lt hb2.rest)
        clear hb hb1 hb2 hB2 hrw
        go_wp2_with fail
        refine (at_bad (A := A) _ _ _ hbad).mono ?_
        rintro e w' ⟨t', x', rfl, hbad', rfl⟩
        go_wp2
        go_ret2
        exact ⟨_, _, _, rfl, hbad', hb3⟩
      · have hq := dig_ok rb k hk1 hk2 lj l1 d wr e1 hlj hb.rest hb.mark
        have hl1 : l1.length ≤ 9223372036854775807 := Nat.le_trans (pDig_rest _ _ _ _ e1) hlj
        have E2 : Hid _ := e2
        clear e1 e2 hpj' hpj
        go_wp2_with fail
        refine hq.mono ?_
        rintro e w1 ⟨rfl, hb1⟩
        have hrw1 := hrw.keep (hb1.block g hrw.lt hgr)
        obtain ⟨v0, hv0⟩ : ∃ v0, w1.cell? ⟨g, j, none⟩ = some v0 := ⟨_, hrw1.cell j (by rw [hzl.out]; omega)⟩
        have hmk := hrw1.mark j
        have hrs := hrw1.set j (d : Int)
        have hb2 := hb.trans hb1
        have HZ : Hid ((zs.set j (d : Int)).length = n) := by
          show _ = _
          rw [List.length_set]; exact hzl.out
        clear hb hb1 hrw hrw1 hq hzl
        go_wp2_with fail
        go_roundw
        case rel =>
          refine ⟨j + 1, l1, _, by omega, by go_num, ?_, hl1, hrs, HZ, hb2.setNew _ _ hgw hgr⟩
          rw [show n - (j + 1) = n - j - 1 from by omega]; exact E2.out
        case measure => simp [intOf]; omega
    · exfalso
      obtain rfl : j = n := by omega
      have h := hpj.out
      rw [Nat.sub_self] at h
      cases h
end Go.Proofs.YtddcbeeldjjmeaaGreatDoor.Tw
