/- The program's reader: a proof that is wrong. -/
import Derived.Test.YtddcbeeldjjmeaaGreatDoorDecP2
namespace Go.Proofs.YtddcbeeldjjmeaaGreatDoor.Tw
open Go.RowKit Go.Proofs.YtddcbeeldjjmeaaGreatDoor.Pu Go.Deep
set_option linter.unusedVariables false
set_option linter.unusedSimpArgs false

/-- No proof. -/
def zeroPV : Value := .agg #[.int .i64 0, .string (S []), .string (S []), .int .i64 0, .int .i64 0, .slice none 0 0]

theorem pP_none (l : List UInt8) (h : pP l = none) : pBot l = none ∨ ∃ (m : Nd) (l1 : List UInt8), pBot l = some (m, l1) ∧ (pNum l1 = none ∨ ∃ (n : Nat) (l2 : List UInt8), pNum l1 = some (n, l2) ∧ (37 < n ∨ (n ≤ 37 ∧ pUs n l2 = none))) := by
  unfold pP at h
  cases h1 : pBot l with
  | none => exact Or.inl rfl
  | some x =>
    obtain ⟨m, l1⟩ := x
    rw [h1] at h
    dsimp only at h
    refine Or.inr ⟨m, l1, rfl, ?_⟩
    cases h2 : pNum l1 with
    | none => exact Or.inl rfl
    | some y =>
      obtain ⟨n, l2⟩ := y
      rw [h2] at h
      dsimp only at h
      refine Or.inr ⟨n, l2, rfl, ?_⟩
      by_cases hn : 37 < n
      · exact Or.inl hn
      · rw [if_neg hn] at h
        cases h3 : pUs n l2 with
        | none => exact Or.inr ⟨by omega, rfl⟩
        | some z =>
          obtain ⟨us, l3⟩ := z
          rw [h3] at h
          cases h

set_option maxRecDepth 20000 in
set_option maxHeartbeats 4000000 in
theorem prf_bad (A : Nat → Addr) (B : Nat) (rb : Nat) (l : List UInt8) (w : World) (hS : Sents A B w) (hT : Tab w) (hTB : 23 < B) (hB : B ≤ rb) (hp : pP l = none) (hl : l.length ≤ 9223372036854775807)
    (hc : w.cell? ⟨rb, 0, none⟩ = some (.string (S l))) (hf : w.frozen? ⟨rb, 0, none⟩ = false) :
    Calls Tryz.prog 102 #[.pointer (some ⟨rb, 0, none⟩)] w fun e w' => Fails A rb w zeroPV e w' := by
  have hnn := neq_nil
  have hhd := neq_held
  have hBs := hS.size
  have hrb : rb < w.heap.size := cell_lt hc
  have hrn : w.heap.size ≠ rb := by omega
  have hb0 : ∀ o, Adv ⟨rb, 0, none⟩ l w (w.alloc o) := fun o => (Adv.refl hc hf).alloc o hrb
  have hbt : Bad A (.iface 423 (.pointer (some (A 9)))) := Bad.base _ (by decide)
  unfold zeroPV
  rcases pP_none l hp with h1 | ⟨m', l1, h1, h2 | ⟨n, l2, h2, h3⟩⟩
  · have hk1 := fun w hS hc hf => bot_bad A B rb l w hS hB h1 hl hc hf
    clear hp h1 hc hf
    unfold nodeV zeroN at hk1
    dsimp only at hk1
    go_enter Tryz.func102, Tryz.ntmps102
    go_wp2_with fail
    refine (hk1 _ (hS.to ((Below.refl B w).alloc hBs _)) (hb0 _).rest (hb0 _).mark).mono ?_
    rintro e w1 ⟨t, x, l1, rfl, hbad, hb9⟩
    obtain ⟨hq1, hq2⟩ := hb9.six hrn
    have hz1 : w.heap.size < w1.heap.size := by have := hb9.size; simp at this; omega
    have hr1 : rb < w1.heap.size := by omega
    go_wp2_with fail
    refine (at_bad (A := A) _ _ _ hbad).mono ?_
    rintro e w' ⟨t', x', rfl, hbad', rfl⟩
    have HB : Hid _ := (hb0 _).trans hb9
    clear hb9
    simp only []
    repeat go_step
    refine bodyPost_ret (v := .tuple #[.agg #[.int .i64 0, .string (S []), .string (S []), .int .i64 0, .int .i64 0, .slice none 0 0], .iface t' x']) (by simp [results, Tryz.results102, go_sem, hq1, hz1]; try rfl) rfl ?_
    refine ⟨_, _, l1, rfl, hbad', ?_⟩
    repeat (first | (with_reducible refine Adv.alloc ?_ _ (by simp only [World.size_setCell]; omega)) | (with_reducible refine Adv.setNew ?_ _ _ (Nat.le_refl _) hrn))
    exact HB.out
  · have hl1 := Nat.le_trans (pBot_rest _ _ _ h1) hl
    have hk1 := fun w hc hf => bot_ok A rb l l1 m' w h1 hl hc hf
    have hk2 := fun w hS hc hf => number_bad A B rb l1 w hS hB h2 hl1 hc hf
    clear hp h1 h2 hc hf
    unfold nodeV at hk1
    go_enter Tryz.func102, Tryz.ntmps102
    go_wp2_with fail
    refine (hk1 _ (hb0 _).rest (hb0 _).mark).mono ?_
    rintro e w1 ⟨rfl, hb1⟩
    have hA1 := (hb0 _).trans hb1
    have hz1 : w.heap.size < w1.heap.size := by have := hb1.size; simp at this; omega
    have hr1 : rb < w1.heap.size := by omega
    have hc1 := hb1.rest
    have hf1 := hb1.mark
    obtain ⟨hq1, hqz⟩ := hb1.six hrn
    have hk6 : K6 w.heap.size (.int .i64 0) (.string ⟨#[]⟩) (.string ⟨#[]⟩) (.int .i64 0) (.int .i64 0) (.slice none 0 0) w1 := ⟨hq1, hqz⟩
    have hb1a : ∀ o, Adv ⟨rb, 0, none⟩ l1 w1 (w1.alloc o) := fun o => (Adv.refl hc1 hf1).alloc o hr1
    have hS1 : ∀ o, Sents A B (w1.alloc o) := fun o => hS.to ((hA1.trans (hb1a o)).below hB hBs)
    clear hk1 hb1 hq1 hqz
    go_wp2_with fail
    refine (hk2 _ (hS1 _) (hb1a _).rest (hb1a _).mark).mono ?_
    rintro e w2 ⟨t, x, l2, rfl, hbad, hb2⟩
    obtain ⟨c6, c6z⟩ := hk6.blk (((hb1a _).trans hb2).block w.heap.size hz1 hrn)
    have HB : Hid _ := hA1.trans ((hb1a _).trans hb2)
    clear hb2 hA1 hk6 hb1a hk2
    go_wp2_with fail
    refine (at_bad (A := A) _ _ _ hbad).mono ?_
    rintro e w' ⟨t', x', rfl, hbad', rfl⟩
    go_wp2_with fail
    refine bodyPost_ret (v := .tuple #[.agg #[.int .i64 0, .string (S []), .string (S []), .int .i64 0, .int .i64 0, .slice none 0 0], .iface t' x']) (by simp [results, Tryz.results102, go_sem, c6]; try rfl) rfl ?_
    refine ⟨_, _, l2, rfl, hbad', ?_⟩
    repeat (refine Adv.setNew ?_ _ _ (Nat.le_refl _) hrn)
    exact HB.out
  · have hl1 := Nat.le_trans (pBot_rest _ _ _ h1) hl
    have hl2 := Nat.le_trans (pNumR _ _ _ h2) hl1
    have hk1 := fun w hc hf => bot_ok A rb l l1 m' w h1 hl hc hf
    have hk2 := fun w hc hf => number_ok rb l1 l2 n w h2 hl1 hc hf
    have hn28 := (pNum_sound _ _ _ h2).2
    clear hp h1 h2 hc hf
    unfold nodeV at hk1
    rcases h3 with hn | ⟨hn, h3⟩
    · have hk3 := fun w => steps_bound (n : Int) false w (by simp; omega)
      go_enter Tryz.func102, Tryz.ntmps102
      go_wp2_with fail
      refine (hk1 _ (hb0 _).rest (hb0 _).mark).mono ?_
      rintro e w1 ⟨rfl, hb1⟩
      have hA1 := (hb0 _).trans hb1
      have hz1 : w.heap.size < w1.heap.size := by have := hb1.size; simp at this; omega
      have hr1 : rb < w1.heap.size := by omega
      have hc1 := hb1.rest
      have hf1 := hb1.mark
      obtain ⟨hq1, hqz⟩ := hb1.six hrn
      have hk6 : K6 w.heap.size (.int .i64 0) (.string ⟨#[]⟩) (.string ⟨#[]⟩) (.int .i64 0) (.int .i64 0) (.slice none 0 0) w1 := ⟨hq1, hqz⟩
      have hb1a : ∀ o, Adv ⟨rb, 0, none⟩ l1 w1 (w1.alloc o) := fun o => (Adv.refl hc1 hf1).alloc o hr1
      clear hk1 hb1 hq1 hqz
      go_wp2_with fail
      refine (hk2 _ (hb1a _).rest (hb1a _).mark).mono ?_
      rintro e w2 ⟨rfl, hb2⟩
      obtain ⟨c6, c6z⟩ := hk6.blk (((hb1a _).trans hb2).block w.heap.size hz1 hrn)
      have hA2 := hA1.trans ((hb1a _).trans hb2)
      have hv := (hS.to (hA2.below hB hBs)).all
      clear hb2 hA1 hk6 hb1a hk2
      go_wp2_with fail
      refine (hk3 _).mono ?_
      rintro e w' ⟨rfl, rfl⟩
      go_wp2_with fail
      refine (at_bad (A := A) _ _ _ hbt).mono ?_
      rintro e w' ⟨t', x', rfl, hbad', rfl⟩
      have HB : Hid _ := hA2
      clear hA2 hv
      go_wp2_with fail
      refine bodyPost_ret (v := .tuple #[.agg #[.int .i64 0, .string (S []), .string (S []), .int .i64 0, .int .i64 0, .slice none 0 0], .iface t' x']) (by simp [results, Tryz.results102, go_sem, c6]; try rfl) rfl ?_
      refine ⟨_, _, l2, rfl, hbad', ?_⟩
      repeat (refine Adv.setNew ?_ _ _ (Nat.le_refl _) hrn)
      exact HB.out
    · have hk3 := fun w => steps_bound (n : Int) true w (by simp; omega)
      obtain ⟨M, hM⟩ : ∃ M, M = madeCells (Value.agg #[.int .i64 0, .string ⟨#[]⟩, .int .i64 0]).cells (n * 3) := ⟨_, rfl⟩
      have hmk := make_ups n hn M hM
      have HM : Hid _ := hM
      have HP : Hid _ := h3
      clear h3 hM
      go_enter Tryz.func102, Tryz.ntmps102
      go_wp2_with fail
      refine (hk1 _ (hb0 _).rest (hb0 _).mark).mono ?_
      rintro e w1 ⟨rfl, hb1⟩
      have hA1 := (hb0 _).trans hb1
      have hz1 : w.heap.size < w1.heap.size := by have := hb1.size; simp at this; omega
      have hr1 : rb < w1.heap.size := by omega
      have hc1 := hb1.rest
      have hf1 := hb1.mark
      obtain ⟨hq1, hqz⟩ := hb1.six hrn
      have hk6 : K6 w.heap.size (.int .i64 0) (.string ⟨#[]⟩) (.string ⟨#[]⟩) (.int .i64 0) (.int .i64 0) (.slice none 0 0) w1 := ⟨hq1, hqz⟩
      have hb1a : ∀ o, Adv ⟨rb, 0, none⟩ l1 w1 (w1.alloc o) := fun o => (Adv.refl hc1 hf1).alloc o hr1
      clear hk1 hb1 hq1 hqz
      go_wp2_with fail
      refine (hk2 _ (hb1a _).rest (hb1a _).mark).mono ?_
      rintro e w2 ⟨rfl, hb2⟩
      have hA2 := hA1.trans ((hb1a _).trans hb2)
      have hz2 : w1.heap.size < w2.heap.size := by have := hb2.size; simp at this; omega
      have hk6' := hk6.blk (((hb1a _).trans hb2).block w.heap.size hz1 hrn)
      clear hb2 hA1 hk6 hb1a hk2
      go_wp2_with fail
      refine (hk3 _).mono ?_
      rintro e w' ⟨rfl, rfl⟩
      go_wp2_with fail
      obtain ⟨g, hg⟩ : ∃ g, g = w'.heap.size := ⟨_, rfl⟩
      obtain ⟨wm, hwm⟩ : ∃ wm, wm = w'.alloc (.cells M 28) := ⟨_, rfl⟩
      have hrow : UBlk wm g n (fun _ => zeroU) := by rw [hwm, hg, HM.out]; exact UBlk.new w' _
      have hgr : g ≠ rb := by have := hA2.size; omega
      have hgw : w.heap.size < g := by omega
      have hA3 : Adv ⟨rb, 0, none⟩ l2 w wm := by rw [hwm]; exact hA2.alloc _ (cell_lt hA2.rest)
      have hk6 : K6 w.heap.size (.int .i64 0) (.string ⟨#[]⟩) (.string ⟨#[]⟩) (.int .i64 0) (.int .i64 0) (.slice none 0 0) wm := by rw [hwm]; exact hk6'.blk (Below.heap_alloc _ _ _ (by omega))
      have hne2 : w.heap.size ≠ g := by omega
      rw [← hwm, ← hg]
      clear hg hwm hmk hA2 hk6' hz2 hk3
      go_loopw [5, 8, 39] (fun _ _ i wr => ∃ (j : Nat) (lj : List UInt8) (F : Nat → Us), j ≤ n ∧ i = .int .i64 j ∧ Hid (pUs (n - j) lj = none) ∧ lj.length ≤ 9223372036854775807 ∧ UBlk wr g n F ∧ K6 w.heap.size (.int .i64 0) (.string ⟨#[]⟩) (.string ⟨#[]⟩) (.int .i64 0) (.int .i64 0) (.slice none 0 0) wr ∧ Adv ⟨rb, 0, none⟩ lj w wr) (fun _ _ i _ => (n - intOf i).toNat)
      case atStart => exact ⟨0, l2, _, by omega, rfl, HP.out, hl2, hrow, hk6, hA3⟩
      case round =>
        obtain ⟨j, lj, F, hj, rfl, hpj, hlj, hrw, h6, hb⟩ := hrel
        by_cases hjn : j < n
        · have hpj' := hpj.out
          rw [show n - j = (n - j - 1) + 1 from by omega] at hpj'
          have hSr := hS.to (hb.below hB hBs)
          rcases pUs_nostep _ _ hpj' with e1 | ⟨u, l4, e1, e2⟩
          · have hq := up_bad A B rb lj wr hSr hB e1 hlj hb.rest hb.mark
            have hki := fun w hT => itoa_any (j : Int) w hT (by omega) (by omega)
            clear e1 hpj' hpj
            unfold zeroUV at hq
            go_wp2_with fail
            refine hq.mono ?_
            rintro e w4 ⟨t, x, l4, rfl, hbad, hb1⟩
            have hrw1 := hrw.keep (hb1.block g hrw.lt hgr)
            have h6' := h6.blk (hb1.block w.heap.size (by have := hrw.lt; omega) hrn)
            obtain ⟨⟨v0, hv0⟩, ⟨v1, hv1⟩, v2, hv2⟩ : (∃ v0, w4.cell? ⟨g, j * 3, none⟩ = some v0) ∧ (∃ v1, w4.cell? ⟨g, j * 3 + 1, none⟩ = some v1) ∧ ∃ v2, w4.cell? ⟨g, j * 3 + 2, none⟩ = some v2 := by
              obtain ⟨c0, c1, c2⟩ := hrw1.cells j hjn
              exact ⟨⟨_, c0⟩, ⟨_, c1⟩, _, c2⟩
            have hm0 := hrw1.mark
            have hb2 := hb.trans hb1
            have hA4 : ∀ (a b c : Value), Adv ⟨rb, 0, none⟩ l4 w (((w4.setCell ⟨g, j * 3, none⟩ a).setCell ⟨g, j * 3 + 1, none⟩ b).setCell ⟨g, j * 3 + 2, none⟩ c) := fun a b c =>
              Adv.setNew (Adv.setNew (Adv.setNew hb2 _ _ (Nat.le_of_lt hgw) hgr) _ _ (Nat.le_of_lt hgw) hgr) _ _ (Nat.le_of_lt hgw) hgr
            have hK4 : ∀ (a b c : Value), K6 w.heap.size (.int .i64 0) (.string ⟨#[]⟩) (.string ⟨#[]⟩) (.int .i64 0) (.int .i64 0) (.slice none 0 0) (((w4.setCell ⟨g, j * 3, none⟩ a).setCell ⟨g, j * 3 + 1, none⟩ b).setCell ⟨g, j * 3 + 2, none⟩ c) := fun a b c => h6'.blk (blk3 _ _ _ _ _ _ _ _ _ hne2)
            have hzg : w.heap.size < w4.heap.size := by have := hrw1.lt; omega
            clear hb hb1 hrw hrw1 hq h6 h6' hb2
            go_wp2_with fail
            refine (hki _ (hT.to ((hA4 _ _ _).below hB hBs) hTB)).mono ?_
            rintro e w5 ⟨s, rfl, hs, hB5⟩
            have hss := catI { data := #[115, 116, 101, 112, 32] } s (by show 5 ≤ _; decide) (by omega)
            have hb5 := (hA4 _ _ _).then hB5 (cell_lt (hA4 _ _ _).rest)
            obtain ⟨c6, c6z⟩ := (hK4 _ _ _).blk (hB5.block w.heap.size (by simpa using hzg))
            have HB : Hid _ := hb5
            clear hA4 hK4 hB5 hb5 hv0 hv1 hv2 hm0
            go_wp2_with fail
            refine (at_bad (A := A) _ _ _ hbad).mono ?_
            rintro e w' ⟨t', x', rfl, hbad', rfl⟩
            go_wp2_with fail
            refine bodyPost_ret (v := .tuple #[.agg #[.int .i64 0, .string (S []), .string (S []), .int .i64 0, .int .i64 0, .slice none 0 0], .iface t' x']) (by simp [results, Tryz.results102, go_sem, c6]; try rfl) rfl ?_
            refine ⟨_, _, l4, rfl, hbad', ?_⟩
            repeat (refine Adv.setNew ?_ _ _ (Nat.le_refl _) hrn)
            exact HB.out
          · have hq := up_ok A rb lj l4 u wr e1 hlj hb.rest hb.mark
            have hl4 : l4.length ≤ 9223372036854775807 := Nat.le_trans (pU_rest _ _ _ e1) hlj
            have E2 : Hid _ := e2
            clear e1 e2 hpj' hpj
            unfold upV at hq
            go_wp2_with fail
            refine hq.mono ?_
            rintro e w4 ⟨rfl, hb1⟩
            have hrw1 := hrw.keep (hb1.block g hrw.lt hgr)
            have h6' := h6.blk (hb1.block w.heap.size (by have := hrw.lt; omega) hrn)
            obtain ⟨⟨v0, hv0⟩, ⟨v1, hv1⟩, v2, hv2⟩ : (∃ v0, w4.cell? ⟨g, j * 3, none⟩ = some v0) ∧ (∃ v1, w4.cell? ⟨g, j * 3 + 1, none⟩ = some v1) ∧ ∃ v2, w4.cell? ⟨g, j * 3 + 2, none⟩ = some v2 := by
              obtain ⟨c0, c1, c2⟩ := hrw1.cells j hjn
              exact ⟨⟨_, c0⟩, ⟨_, c1⟩, _, c2⟩
            have hm0 := hrw1.mark
            have hput := hrw1.put j u
            have hb2 := hb.trans hb1
            clear hb hb1 hrw hrw1 hq h6 hSr
            go_wp2_with fail
            refine ⟨⟨j + 1, l4, _, by omega, by go_num, ?_, hl4, hput, h6'.blk (blk3 _ _ _ _ _ _ _ _ _ hne2), ?_⟩, by simp [intOf]; omega⟩
            · rw [show n - (j + 1) = n - j - 1 from by omega]; exact E2.out
            · refine Adv.setNew (Adv.setNew (Adv.setNew hb2 _ _ ?_ hgr) _ _ ?_ hgr) _ _ ?_ hgr
              · exact Nat.le_of_lt hgw
              · exact Nat.le_of_lt hgw
              · exact Nat.le_of_lt hgw
        · exfalso
          obtain rfl : j = n := by omega
          have h := hpj.out
          rw [Nat.sub_self] at h
          cases h
end Go.Proofs.YtddcbeeldjjmeaaGreatDoor.Tw
