/- Lists that came out, marked by their owner: steps; the call. -/
import Derived.Test.YtddcbeeldjjmeaaGreatDoorBooksU
namespace Go.Proofs.YtddcbeeldjjmeaaGreatDoor.Tw
open Go.RowKit Go.Proofs.YtddcbeeldjjmeaaGreatDoor.Pu
set_option linter.unusedVariables false
set_option linter.unusedSimpArgs false

theorem UBlk.same {w : World} {g n : Nat} {F G : Nat → Us} (h : UBlk w g n F) (e : ∀ i, i < n → F i = G i) : UBlk w g n G := by
  unfold UBlk at h ⊢
  refine Go.World.rowIs.congr h fun i hi => ?_
  unfold cellU
  rw [e (i / 3) (by omega)]

set_option maxRecDepth 20000 in
set_option maxHeartbeats 4000000 in
theorem bups_any (bk gx n : Nat) (F : Nat → Us) (p : Option Addr) (w : World) (hbk : w.heap[bk]? = some (.cells #[.int .i64 0, .slice none 0 0] 38 (0, 0))) (hg : gx ≠ bk) (hgm : gx ≠ w.heap.size) (hrow : (p = some ⟨gx, 0, none⟩ ∧ UBlk w gx n F) ∨ (p = none ∧ n = 0)) (hlen : n ≤ 40) :
    Calls Tryz.prog 16 #[.pointer (some ⟨bk, 0, none⟩), .slice p n n] w fun e w' => e = .returned (.tuple #[]) ∧ (∃ vs u, vs.length = 4 ∧ BkU bk (w.heap.size + 1) (n + 4) w' vs u) ∧ TouchU bk gx w w' := by
  have hfb : ∀ o, w.frozen? ⟨bk, o, none⟩ = false := fun o => by simp [World.frozen?, hbk]
  have b0 : w.cell? ⟨bk, 0, none⟩ = some (.int .i64 0) := by simp [World.cell?, hbk]
  have b1 : w.cell? ⟨bk, 1, none⟩ = some (.slice none 0 0) := by simp [World.cell?, hbk]
  have hbl : bk < w.heap.size := lt_of_cells hbk
  have hz2 : (w.setCell ⟨bk, 0, none⟩ (.int .i64 1)).heap.size = w.heap.size := by simp [World.setCell]
  have hbk2 : (w.setCell ⟨bk, 0, none⟩ (.int .i64 1)).heap[bk]? = some (.cells #[.int .i64 1, .slice none 0 0] 38 (0, 0)) := by simp [World.setCell, Array.getElem?_modify, hbk]
  have b2 : (w.setCell ⟨bk, 0, none⟩ (.int .i64 1)).cell? ⟨bk, 0, none⟩ = some (.int .i64 1) := by simp [World.cell?, hbk2]
  go_enter Tryz.func16, Tryz.ntmps16
  go_wp2_with fail
  have hsz1 : ((w.setCell ⟨bk, 0, none⟩ (.int .i64 1)).alloc (.cells #[.int .i64 (-1), .string ⟨#[]⟩, .int .i64 0] 28)).heap.size = w.heap.size + 1 := by simp [hz2]
  have hmb : ((w.setCell ⟨bk, 0, none⟩ (.int .i64 1)).alloc (.cells #[.int .i64 (-1), .string ⟨#[]⟩, .int .i64 0] 28)).heap[w.heap.size]? = some (.cells #[.int .i64 (-1), .string ⟨#[]⟩, .int .i64 0] 28 (0, 0)) := by
    have h := heap_alloc_new (w.setCell ⟨bk, 0, none⟩ (.int .i64 1)) (.cells #[.int .i64 (-1), .string ⟨#[]⟩, .int .i64 0] 28)
    rw [hz2] at h; exact h
  have ht2 : TouchU bk gx w ((w.setCell ⟨bk, 0, none⟩ (.int .i64 1)).alloc (.cells #[.int .i64 (-1), .string ⟨#[]⟩, .int .i64 0] 28)) := ((TouchU.refl bk gx w).set bk 0 (.int .i64 1) (Or.inl rfl)).below ((Below.refl _ _).alloc (Nat.le_refl _) _) (by rw [hz2]; exact Nat.le_refl _)
  have hbk3 : ((w.setCell ⟨bk, 0, none⟩ (.int .i64 1)).alloc (.cells #[.int .i64 (-1), .string ⟨#[]⟩, .int .i64 0] 28)).heap[bk]? = some (.cells #[.int .i64 1, .slice none 0 0] 38 (0, 0)) := (Below.heap_alloc _ _ _ (by rw [hz2]; exact hbl)).trans hbk2
  have hr2 : (p = some ⟨gx, 0, none⟩ ∧ UBlk ((w.setCell ⟨bk, 0, none⟩ (.int .i64 1)).alloc (.cells #[.int .i64 (-1), .string ⟨#[]⟩, .int .i64 0] 28)) gx n F) ∨ (p = none ∧ n = 0) := hrow.imp (fun h => ⟨h.1, h.2.keep ((Below.heap_alloc _ _ _ (by rw [hz2]; exact h.2.lt)).trans (Below.heap_setCell _ _ _ _ hg))⟩) id
  generalize (w.setCell ⟨bk, 0, none⟩ (.int .i64 1)).alloc (.cells #[.int .i64 (-1), .string ⟨#[]⟩, .int .i64 0] 28) = W1 at *
  generalize hmn : w.heap.size = mb at *
  have ht20 := ht2
  clear hfb b0 b1 b2 hbk2 hz2 hrow hbk
  have hmk : mb ≠ bk := by omega
  go_loopw [5] (fun i wr => ∃ (j : Nat) (F : Nat → Us), j ≤ n ∧ i = .int .i64 j ∧ ((p = some ⟨gx, 0, none⟩ ∧ UBlk wr gx n F ∧ ∀ i, i < j → F i = mU) ∨ (p = none ∧ n = 0)) ∧ wr.heap[bk]? = some (.cells #[.int .i64 1, .slice none 0 0] 38 (0, 0)) ∧ TouchU bk gx W1 wr ∧ wr.heap.size = W1.heap.size) (fun i _ => (n - intOf i).toNat)
  case atStart => exact ⟨0, F, by omega, rfl, hr2.imp (fun h => ⟨h.1, h.2, fun i hi => absurd hi (Nat.not_lt_zero i)⟩) id, hbk3, TouchU.refl _ _ _, rfl⟩
  case round =>
    obtain ⟨j, F1, hj, rfl, hr, hbk4, ht, hz⟩ := hrel
    have hm4 := (ht.block mb (by omega) hmk (Ne.symm hgm)).trans hmb
    have c0 : wr.cell? ⟨mb, 0, none⟩ = some (.int .i64 (-1)) := by simp [World.cell?, hm4]
    have c1 : wr.cell? ⟨mb, 1, none⟩ = some (.string ⟨#[]⟩) := by simp [World.cell?, hm4]
    have c2 : wr.cell? ⟨mb, 2, none⟩ = some (.int .i64 0) := by simp [World.cell?, hm4]
    by_cases hjn : j < n
    · obtain ⟨hp, hr8, hF⟩ := hr.resolve_right (by rintro ⟨_, h⟩; omega)
      clear hr
      subst hp
      obtain ⟨d0, d1, d2⟩ := hr8.cells j hjn
      have hmk8 := hr8.mark
      have hput := hr8.put j mU
      have e1 : ∀ a b c o, o ≠ gx → (((wr.setCell ⟨gx, j * 3, none⟩ a).setCell ⟨gx, j * 3 + 1, none⟩ b).setCell ⟨gx, j * 3 + 2, none⟩ c).heap[o]? = wr.heap[o]? := fun a b c o ho => by
        rw [Below.heap_setCell _ _ _ _ (show o ≠ gx from ho), Below.heap_setCell _ _ _ _ (show o ≠ gx from ho), Below.heap_setCell _ _ _ _ (show o ≠ gx from ho)]
      have ht8 : ∀ a b c, TouchU bk gx W1 (((wr.setCell ⟨gx, j * 3, none⟩ a).setCell ⟨gx, j * 3 + 1, none⟩ b).setCell ⟨gx, j * 3 + 2, none⟩ c) := fun a b c => ((ht.set gx _ _ (Or.inr (Or.inl rfl))).set gx _ _ (Or.inr (Or.inl rfl))).set gx _ _ (Or.inr (Or.inl rfl))
      have hz8 : ∀ a b c, (((wr.setCell ⟨gx, j * 3, none⟩ a).setCell ⟨gx, j * 3 + 1, none⟩ b).setCell ⟨gx, j * 3 + 2, none⟩ c).heap.size = W1.heap.size := fun a b c => by rw [← hz]; simp [World.setCell]
      go_wp2_with fail
      go_roundw
      case rel =>
        refine ⟨j + 1, (fun i => if i = j then mU else F1 i), by omega, by go_num, Or.inl ⟨by simp, ?_, fun i hi => ?_⟩, (e1 _ _ _ bk (Ne.symm hg)).trans hbk4, ht8 _ _ _, hz8 _ _ _⟩
        · exact hput
        · dsimp only
          by_cases h : i = j
          · rw [if_pos h]
          · rw [if_neg h]; exact hF i (by omega)
      case measure => simp [intOf]; omega
    · obtain rfl : j = n := by omega
      go_wp2_with fail
      have hBk : BkU bk W1.heap.size (j + 0) wr [] (.slice none 0 0) := ⟨hbk4, ⟨by simp [booksCU], Or.inl ⟨rfl, rfl⟩⟩, by simp⟩
      have hCur : CurU W1.heap.size gx j wr 0 (.slice p j j) := by
        rcases hr with ⟨rfl, hr, hF⟩ | ⟨rfl, rfl⟩
        · exact Or.inl ⟨rfl, rfl, hr.same hF⟩
        · exact Or.inr (Or.inr ⟨rfl, rfl, rfl⟩)
      clear hr hbk4 hz hr2 hjn hj c0 c1 c2 hm4 hbk3
      obtain ⟨i0, hi, hz0, hz1, hz2⟩ := info_parts uinfo
      obtain ⟨ib, hib, hbz0, hbz1, hbz2⟩ := info_parts binfoU
      go_loopw [1, 6] (fun l k wr => ∃ (q : Nat) (vs : List Value) (u : Value), q ≤ 4 ∧ k = .int .i64 q ∧ vs.length = q ∧ BkU bk W1.heap.size (j + q) wr vs u ∧ CurU W1.heap.size gx j wr q l ∧ TouchU bk gx W1 wr) (fun _ k _ => (4 - intOf k).toNat)
      case atStart => exact ⟨0, [], _, by omega, rfl, rfl, hBk, hCur, ht⟩
      case round =>
        obtain ⟨q, vs, u, hq, rfl, hvs, hb, hc, ht⟩ := hrel
        by_cases hq4 : q < 4
        · have b0 : wr.cell? ⟨bk, 0, none⟩ = some (.int .i64 1) := by simp [World.cell?, hb.blk]
          have b1 : wr.cell? ⟨bk, 1, none⟩ = some u := by simp [World.cell?, hb.blk]
          have hfb : ∀ o, wr.frozen? ⟨bk, o, none⟩ = false := fun o => by simp [World.frozen?, hb.blk]
          obtain ⟨lp, ln, lc, rfl⟩ : ∃ p n c, u1 = .slice p n c := by
            obtain ⟨p, n, c, h, _⟩ := hc.full; exact ⟨_, _, _, h⟩
          have hO := hb.row
          have hOd : ∀ o, ((wr.drew).alloc o).ownsRow W1.heap.size 111 5 u vs.length (booksCU vs) := fun o => World.ownsRow.alloc (w := wr.drew) hO o
          have hne9 : some bk ≠ u.ownBlock := fun e => by
            obtain ⟨_, ⟨rfl, _⟩ | ⟨g, cap, cur, rfl, hg, _⟩⟩ := hO
            · simp [Value.ownBlock] at e
            · simp [Value.ownBlock] at e; omega
          have hsz := ht.size
          have hAb : ∀ o, (wr.alloc o).heap[bk]? = some (.cells #[.int .i64 1, u] 38 (0, 0)) := fun o => (Below.heap_alloc _ _ _ (show bk < wr.heap.size by omega)).trans hb.blk
          have hA0 : ∀ o, (wr.alloc o).cell? ⟨bk, 0, none⟩ = some (.int .i64 1) := fun o => by unfold World.cell?; rw [hAb o]; rfl
          have hA1 : ∀ o, (wr.alloc o).cell? ⟨bk, 1, none⟩ = some u := fun o => by unfold World.cell?; rw [hAb o]; rfl
          have hA2 : ∀ o, (wr.alloc o).frozen? ⟨bk, 1, none⟩ = false := fun o => by unfold World.frozen?; rw [hAb o]; rfl
          have hbl2 : bk < W1.heap.size := by omega
          go_wp2_with fail
          go_region_law (first
            | (refine step_append_lies _ (by rfl) _ _ _ (by rfl) W1.heap.size 111 ib _ 5 104 Tryz.underlying36 hib hbz0 hbz1 hbz2 rfl (by decide) _ vs.length (booksCU vs) (by rfl) (hOd _) ⟨wr.heap.size, 0, none⟩ 1 1 _ (by rfl) (by rfl) (World.news_of_block (heap_alloc_new wr.drew _)) (by intro x hx; simp at hx; rcases hx with rfl | rfl | rfl | rfl <;> rfl) (by decide) (by unfold maxLen; omega) (by omega) (by simp; omega) _ rfl ?_; intro g cap2 w1 hown1 hgrow hat hlt; have hx4 := (hgrow.cell_far ⟨bk, 1, none⟩ (by simp; omega) hne9).trans (hA1 _); have hf4 := (hgrow.frozen_far ⟨bk, 1, none⟩ (by simp; omega) hne9).trans (hA2 _)))
          all_goals
            obtain ⟨hb2, hc2, ht2⟩ := bookU_step hbl2 hb hc ht (by first | exact ((Below.refl _ wr).alloc (Nat.le_refl _) _).drew | exact ((Below.refl _ wr).drew.alloc (Nat.le_refl _) _)) hown1 hgrow
            clear hown1 hgrow hat hlt hx4 hf4 hb hc ht hO hOd hne9 hsz hAb hA0 hA1 hA2 b0 b1 hfb
            rw [hvs] at hb2 hc2 ht2
            generalize w1.setCell ⟨bk, 1, none⟩ (.slice (some ⟨g, 0, none⟩) (q + 1) cap2) = W2 at *
            try simp only [Exit.inBlock, Exit.then]
            have hsz2 := ht2.size
            have hm4 := (ht2.block mb (by omega) hmk (Ne.symm hgm)).trans hmb
            have c0 : W2.cell? ⟨mb, 0, none⟩ = some (.int .i64 (-1)) := by simp [World.cell?, hm4]
            have c1 : W2.cell? ⟨mb, 1, none⟩ = some (.string ⟨#[]⟩) := by simp [World.cell?, hm4]
            have c2 : W2.cell? ⟨mb, 2, none⟩ = some (.int .i64 0) := by simp [World.cell?, hm4]
            clear hm4
            have hnw : ∀ W : World, Below W.heap.size W (W.alloc (.cells #[.int .i64 (-1), .string ⟨#[]⟩, .int .i64 0] 28)) := fun W => (Below.refl _ W).alloc (Nat.le_refl _) _
            by_cases hnil : Value.slice lp ln lc = .slice none 0 0
            · simp only [Value.slice.injEq] at hnil
              obtain ⟨rfl, rfl, rfl⟩ := hnil
              have hz9 : q = 0 ∧ j = 0 := by
                rcases hc2 with ⟨h1, h2, _⟩ | ⟨h1, h2⟩ | ⟨h1, h2, _⟩
                · simp at h2
                · obtain ⟨p8, c8, e8, _⟩ := h2.urow
                  simp at e8; omega
                · exact ⟨h1, h2⟩
              obtain ⟨hz8, hz9⟩ := hz9
              have hap : ∀ (W3 : World) (Z : Nat) (v : Value), W3.ownsRow Z 28 3 v (0 + 1) ([] ++ [.int .i64 (-1), .string ⟨#[]⟩, .int .i64 0]) → W3.ownsRow Z 28 3 v (j + q + 1) (upCs (List.replicate (j + q) mU) ++ upC mU) := by
                intro W3 Z v h; rw [hz8, hz9]; exact h
              clear hc2 hz8 hz9
              go_wp2_with (at_builtin; refine wpList_append_grows _ rfl (.tmp 49) (.tmp 51) 24 rfl 28 i0 (.agg #[.int .i64 0, .string ⟨#[]⟩, .int .i64 0]) 3 32 Tryz.underlying24 hi hz0 hz1 hz2 rfl (by decide) none 0 0 [] rfl (by simp) (by simp) (by simp) ⟨W2.heap.size, 0, none⟩ 1 1 _ rfl rfl (World.news_of_block (heap_alloc_new W2 _)) (by intro y hy; simp at hy; rcases hy with rfl | rfl | rfl <;> rfl) (by omega) (by unfold maxLen; omega) (by omega) ?_; intro v3 w3 hown3 hgrow3)
              obtain ⟨hb3, hc3, ht3⟩ := listU_grows (n := j) (q := q) rfl hbl2 hb2 ht2 (by simp; omega) (hnw _) (hap _ _ _ hown3) hgrow3
              clear hown3 hgrow3 hb2 ht2 hap
              refine ⟨⟨q + 1, _, _, by omega, by go_num, by simp [hvs], hb3, hc3, ht3⟩, ?_⟩
              simp [intOf]; omega
            obtain ⟨g1, cap1, cs1, fz1, e1, hg1, hcs1, hk0, hk1⟩ := hc2.form hnil
            simp only [Value.slice.injEq] at e1
            obtain ⟨rfl, rfl, rfl⟩ := e1
            by_cases hroom : j + q + 1 ≤ lc
            · have hq1 : 1 ≤ q := by
                rcases Nat.eq_zero_or_pos q with h | h
                · obtain ⟨_, h2⟩ := hk0 h; omega
                · exact h
              obtain ⟨hBg, hOw⟩ := hk1 hq1
              unfold OwnU at hOw
              rw [List.length_replicate] at hOw
              clear hk0 hk1 hcs1 hc2
              go_wp2_with (at_builtin; refine wpList_append_own_spare _ rfl (.tmp 49) (.tmp 51) 24 rfl W1.heap.size 28 i0 3 Tryz.underlying24 hi hz1 g1 (j + q) lc (upCs (List.replicate (j + q) mU)) rfl (World.ownsRow.alloc (w := W2) hOw _) ⟨W2.heap.size, 0, none⟩ 1 1 _ rfl rfl (World.news_of_block (heap_alloc_new W2 _)) (by intro y hy; simp at hy; rcases hy with rfl | rfl | rfl <;> rfl) hroom ?_; intro w3 hown3 hgrow3)
              obtain ⟨hb3, hc3, ht3⟩ := listU_room rfl hbl2 hb2 ht2 hg1 hBg (hnw _) hown3 hgrow3
              clear hown3 hgrow3 hb2 ht2 hg1 hOw
              refine ⟨⟨q + 1, _, _, by omega, by go_num, by simp [hvs], hb3, hc3, ht3⟩, ?_⟩
              simp [intOf]; omega
            · have hA3 : ∀ o (b : Addr), some (⟨g1, 0, none⟩ : Addr) = some b → ∀ k x, (upCs (List.replicate (j + q) mU))[k]? = some x → (W2.alloc o).cell? (b.add k) = some x := by
                rintro o b ⟨⟩ k x hx
                have hlu : (upCs (List.replicate (j + q) mU)).length = (j + q) * 3 := by rw [upCs_len, List.length_replicate]
                have hj : k < (j + q) * 3 := by
                  by_cases h : k < (j + q) * 3
                  · exact h
                  · rw [List.getElem?_eq_none (by omega)] at hx; cases hx
                rw [upCs_mark (j + q) k hj] at hx
                have ea : (⟨g1, 0, none⟩ : Addr).add k = ⟨g1, k, none⟩ := by cases k <;> simp [Addr.add]
                rw [ea]
                unfold World.cell?
                rw [Below.heap_alloc _ _ _ (lt_of_cells hg1), hg1]
                simp only [Option.some.injEq] at hx
                simp [hcs1 k hj, ← hx]
              clear hk0 hk1 hcs1 hc2
              go_wp2_with (at_builtin; refine wpList_append_grows _ rfl (.tmp 49) (.tmp 51) 24 rfl 28 i0 (.agg #[.int .i64 0, .string ⟨#[]⟩, .int .i64 0]) 3 32 Tryz.underlying24 hi hz0 hz1 hz2 rfl (by decide) (some ⟨g1, 0, none⟩) (j + q) lc (upCs (List.replicate (j + q) mU)) rfl (by simp) (by rw [upCs_len, List.length_replicate]) (hA3 _) ⟨W2.heap.size, 0, none⟩ 1 1 _ rfl rfl (World.news_of_block (heap_alloc_new W2 _)) (by intro y hy; simp at hy; rcases hy with rfl | rfl | rfl <;> rfl) (by omega) (by unfold maxLen; omega) (by omega) ?_; intro v3 w3 hown3 hgrow3)
              obtain ⟨hb3, hc3, ht3⟩ := listU_grows rfl hbl2 hb2 ht2 (by simp; omega) (hnw _) hown3 hgrow3
              clear hown3 hgrow3 hb2 ht2 hg1 hA3
              refine ⟨⟨q + 1, _, _, by omega, by go_num, by simp [hvs], hb3, hc3, ht3⟩, ?_⟩
              simp [intOf]; omega
        · obtain rfl : q = 4 := by omega
          go_wp2
          refine bodyPost_end (results_none rfl _ _ _) rfl ⟨rfl, ⟨vs, u, hvs, ?_⟩, ?_⟩
          · rw [hmn, ← hsz1]; exact hb
          · exact ⟨ht.os.trans ht20.os, ht.tape.trans ht20.tape, ht.output.trans ht20.output, Nat.le_trans ht20.size ht.size, fun j hj h1 h2 => (ht.block j (by have := ht20.size; omega) h1 h2).trans (ht20.block j hj h1 h2)⟩
end Go.Proofs.YtddcbeeldjjmeaaGreatDoor.Tw
