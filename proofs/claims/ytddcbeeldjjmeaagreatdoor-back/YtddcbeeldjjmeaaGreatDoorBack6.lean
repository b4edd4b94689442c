/- The law Back: manifests out of raw numbers. -/
import Derived.Test.YtddcbeeldjjmeaaGreatDoorBack5
import Derived.Test.YtddcbeeldjjmeaaGreatDoorOwnM
namespace Go.Proofs.YtddcbeeldjjmeaaGreatDoor.Tw
open Go.RowKit Go.Proofs.YtddcbeeldjjmeaaGreatDoor.Pu
set_option linter.unusedVariables false
set_option linter.unusedSimpArgs false

set_option maxRecDepth 20000 in
set_option maxHeartbeats 8000000 in
theorem kman_any (wd sz tt : Int) (raw : List Int) (v : Value) (w : World) (hv : IRow w v raw) (hr : ∀ x, x ∈ raw → -9223372036854775808 ≤ x ∧ x ≤ 9223372036854775807) (hl : raw.length ≤ 9223372036854775807)
    (h0 : -9223372036854775808 ≤ wd) (h1 : wd ≤ 9223372036854775807) (h2 : -9223372036854775808 ≤ sz) (h3 : sz ≤ 9223372036854775807) (h4 : -9223372036854775808 ≤ tt) (h5 : tt ≤ 9223372036854775807) :
    Calls Tryz.prog 23 #[.int .i64 wd, .int .i64 sz, .int .i64 tt, v] w fun e w' => ∃ (m : Mf) (u : Value), e = .returned (manV m u) ∧ IRow w' u m.digests ∧ okM m = true ∧ Below w.heap.size w w' := by
  have hk1 := fun w => pick_any wd 32 w h0 h1 (by omega) (by omega)
  have hk2 := fun w => pick_any sz 993 w h2 h3 (by omega) (by omega)
  have hk3 := fun w => pick_any tt 2000 w h4 h5 (by omega) (by omega)
  have hn1 := pickN_lt wd 32 (by omega)
  have hn2 := pickN_lt sz 993 (by omega)
  have hn3 := pickN_lt tt 2000 (by omega)
  generalize pickN wd 32 = a at hk1 hn1
  generalize pickN sz 993 = b at hk2 hn2
  generalize pickN tt 2000 = c at hk3 hn3
  obtain ⟨k, hW⟩ : ∃ k : Nat, (1 : Int) + a = k := ⟨1 + a, by omega⟩
  obtain ⟨s, hS⟩ : ∃ s : Nat, (8 : Int) + b = s := ⟨8 + b, by omega⟩
  obtain ⟨t, hT⟩ : ∃ t : Nat, (1 : Int) + c = t := ⟨1 + c, by omega⟩
  have hk1b : 1 ≤ k ∧ k ≤ 32 := by omega
  have hs1 : 8 ≤ s ∧ s ≤ 1000 := by omega
  have ht1 : 1 ≤ t ∧ t ≤ 2000 := by omega
  obtain ⟨hp1, hp2⟩ := pow32 k (by omega)
  have hcl : (t + s - 1) / s ≤ 100000 := chunks_le s t (by omega) (by omega)
  have hcn := chunks_nat s t (by omega) (by omega)
  generalize (t + s - 1) / s = q at hcl hcn
  have hwk : IntKind.i64.wrap (2 ^ k) = 2 ^ k := wrapI64 _ (by omega) (by omega)
  have hpn : 2 ^ k ≤ 4294967296 := pow_le32 k (by omega)
  have hpp : 0 < 2 ^ k := Nat.two_pow_pos k
  have hpe : (((2 ^ k : Nat)) : Int) = 2 ^ k := by simp
  have hk4 := fun w => pick_any tt (2 ^ k) w h4 h5 hpp hpn
  rw [hpe] at hk4
  have hk5 := fun x w h h' => pick_any x (2 ^ k) w h h' hpp hpn
  rw [hpe] at hk5
  have hn4 := pickN_lt tt (2 ^ k) hpp
  have hn5 := fun x => pickN_lt x (2 ^ k) hpp
  generalize pickN tt (2 ^ k) = rt at hk4 hn4
  have HPE : Hid _ := hpe
  clear hpe
  obtain ⟨p, cap, rfl, hc⟩ := hv
  go_enter Tryz.func23, Tryz.ntmps23
  go_wp2_with fail
  refine (hk1 _).mono ?_
  rintro e w1 ⟨rfl, rfl⟩
  go_wp2_with fail
  refine (hk2 _).mono ?_
  rintro e w2 ⟨rfl, rfl⟩
  go_wp2_with fail
  refine (hk3 _).mono ?_
  rintro e w3 ⟨rfl, rfl⟩
  go_wp2_with fail
  refine (hk4 _).mono ?_
  rintro e w4 ⟨rfl, rfl⟩
  go_wp2_with fail
  obtain ⟨i0, hi, hz0, hz1, hz2⟩ := info_parts i64info
  have hsz : ((s : Int) == 0) = false := by simp; omega
  clear hk1 hk2 hk3 hk4
  go_loopw [10, 11] (fun i _ wr => ∃ (u : Value) (l : List Int), l.length ≤ q ∧ i = .int .i64 l.length ∧ MBlk wr (w.heap.size + 1) k rt s t u ∧ MBlk wr w.heap.size 0 0 0 0 (.slice none 0 0) ∧ OwnI (w.heap.size + 2) wr u l ∧ (∀ x, x ∈ l → okD k x = true) ∧ Below w.heap.size w wr) (fun i _ _ => (q - intOf i).toNat)
  case atStart =>
    refine ⟨.slice none 0 0, [], by simp, rfl, ?_, ?_, OwnI.nil _ _, by simp, ((Below.refl _ w).alloc (Nat.le_refl _) _).alloc (by simp) _⟩
    · have h := heap_alloc_new (w.alloc (.cells #[.int .i64 0, .int .i64 0, .int .i64 0, .int .i64 0, .slice none 0 0] 49)) (.cells #[.int .i64 k, .int .i64 rt, .int .i64 s, .int .i64 t, .slice none 0 0] 49)
      rwa [World.size_alloc] at h
    · exact (Below.heap_alloc _ _ _ (by simp)).trans (heap_alloc_new w _)
  case round =>
    obtain ⟨u, l, hlq, rfl, hM, hM0, hO, hok, hb⟩ := hrel
    obtain ⟨m0, m1, m2, m3, m4⟩ := hM.cells
    have hmk := hM.mark
    have hlt9 := hM.lt
    by_cases hjn : l.length < q
    · have hO' := hO
      unfold OwnI at hO
      have hne9 : some (w.heap.size + 1) ≠ u.ownBlock := fun e => by have := hO'.block _ e.symm; omega
      have hne8 : some w.heap.size ≠ u.ownBlock := fun e => by have := hO'.block _ e.symm; omega
      have hOd : ∀ o, ((wr.drew).alloc o).ownsRow (w.heap.size + 2) 3 1 _ l.length (l.map fun n => Value.int .i64 n) := fun o => World.ownsRow.alloc (w := wr.drew) hO o
      by_cases hrz : (0 : Int) < raw.length
      rotate_left
      · go_wp2_with fail
        go_region_law (first
          | (go_simp; go_at_call 34; refine (hk5 _ _ (by omega) (by omega)).mono ?_; rintro e w2 ⟨rfl, rfl⟩)
          | (refine step_append_lies _ (by rfl) _ _ _ (by rfl) (w.heap.size + 2) 3 i0 _ 1 8 Tryz.underlying42 hi hz0 hz1 hz2 rfl (by decide) _ l.length (l.map fun n => Value.int .i64 n) (by rfl) (hOd _) ⟨wr.heap.size, 0, none⟩ 1 1 _ (by rfl) (by rfl) (World.news_of_block (heap_alloc_new wr.drew _)) (by intro u hu; simp at hu; subst hu; rfl) (by decide) (by unfold maxLen; omega) (by omega) (by simp; omega) _ rfl ?_; intro g cap2 w1 hown1 hgrow hat hlt; have hx4 := hgrow.cell_far ⟨w.heap.size + 1, 4, none⟩ (by simp; omega) hne9; have hf4 := hgrow.frozen_far ⟨w.heap.size + 1, 4, none⟩ (by simp; omega) hne9))
        all_goals
          have e9 : w1.heap[w.heap.size + 1]? = wr.heap[w.heap.size + 1]? := (hgrow.block _ (by simp; omega) hne9).trans (Below.heap_alloc _ _ _ hlt9)
          have e8 : w1.heap[w.heap.size]? = wr.heap[w.heap.size]? := (hgrow.block _ (by simp; omega) hne8).trans (Below.heap_alloc _ _ _ (by omega))
          have hM1 := (hM.keep e9).set (.slice (some ⟨g, 0, none⟩) (l.length + 1) cap2)
          have hM01 : MBlk (w1.setCell ⟨w.heap.size + 1, 4, none⟩ (.slice (some ⟨g, 0, none⟩) (l.length + 1) cap2)) w.heap.size 0 0 0 0 (.slice none 0 0) := (hM0.keep e8).keep (Below.heap_setCell _ _ _ _ (show w.heap.size ≠ w.heap.size + 1 by omega))
          have hO1 : OwnI (w.heap.size + 2) (w1.setCell ⟨w.heap.size + 1, 4, none⟩ (.slice (some ⟨g, 0, none⟩) (l.length + 1) cap2)) (.slice (some ⟨g, 0, none⟩) (l.length + 1) cap2) (l ++ [((pickN (l.length : Int) (2 ^ k) : Nat) : Int)]) := by
            refine OwnI.keep (w := w1) ?_ fun j hj _ => Below.heap_setCell _ _ _ _ (show j ≠ w.heap.size + 1 by omega)
            unfold OwnI
            rw [List.map_append, List.length_append]
            exact hown1
          have hok1 := okD_of k _ (hn5 (l.length : Int))
          have hB1 : Below w.heap.size w (w1.setCell ⟨w.heap.size + 1, 4, none⟩ (.slice (some ⟨g, 0, none⟩) (l.length + 1) cap2)) :=
            below_set ((hb.alloc hb.size _).drew.grown hgrow (by simp; omega) fun j hj => by have := hO'.block j hj; omega) _ _ _ (by omega)
          clear hown1 hgrow hat hlt hx4 hf4 e9 e8 hM hM0 hO hO' hOd m0 m1 m2 m3 m4 hmk hb hne8 hne9
          try simp only [Exit.inBlock, Exit.then]
          go_wp2_with fail
          go_roundw
          case rel =>
            refine ⟨_, l ++ [((pickN (l.length : Int) (2 ^ k) : Nat) : Int)], by simp; omega, by simp, hM1, hM01, hO1, fun y hy => ?_, hB1⟩
            rcases List.mem_append.1 hy with h | h
            · exact hok y h
            · rw [List.mem_singleton] at h; subst h; exact hok1
          case measure => simp [intOf]; omega
      · have hzr : ((raw.length : Int) == 0) = false := by
          have h : ¬ (raw.length : Int) = 0 := by omega
          simpa using h
        obtain ⟨j, hj⟩ : ∃ j : Nat, (l.length : Int) % raw.length = j := ⟨l.length % raw.length, by simp⟩
        have hjl : j < raw.length := by have h := Int.emod_lt_of_pos (l.length : Int) hrz; rw [hj] at h; exact Int.ofNat_lt.1 h
        have hjt : (l.length : Int).tmod raw.length = j := by rw [Int.tmod_eq_emod_of_nonneg (by omega)]; exact hj
        obtain ⟨a, rfl, hcell⟩ := hc j hjl
        have hcw : wr.cell? (a.add j) = some (.int .i64 raw[j]) := by rw [hb.cell (cell_lt hcell)]; exact hcell
        have hab : (a.add j).block < w.heap.size := cell_lt hcell
        obtain ⟨hx0, hx1⟩ := hr _ (List.getElem_mem hjl)
        generalize raw[j] = x at hcw hx0 hx1
        clear hcell hc
        go_wp2_with fail
        go_region_law (first
          | (go_simp; go_at_call 34; refine (hk5 _ _ (by omega) (by omega)).mono ?_; rintro e w2 ⟨rfl, rfl⟩)
          | (refine step_append_lies _ (by rfl) _ _ _ (by rfl) (w.heap.size + 2) 3 i0 _ 1 8 Tryz.underlying42 hi hz0 hz1 hz2 rfl (by decide) _ l.length (l.map fun n => Value.int .i64 n) (by rfl) (hOd _) ⟨wr.heap.size, 0, none⟩ 1 1 _ (by rfl) (by rfl) (World.news_of_block (heap_alloc_new wr.drew _)) (by intro u hu; simp at hu; subst hu; rfl) (by decide) (by unfold maxLen; omega) (by omega) (by simp; omega) _ rfl ?_; intro g cap2 w1 hown1 hgrow hat hlt; have hx4 := hgrow.cell_far ⟨w.heap.size + 1, 4, none⟩ (by simp; omega) hne9; have hf4 := hgrow.frozen_far ⟨w.heap.size + 1, 4, none⟩ (by simp; omega) hne9))
        all_goals
          have e9 : w1.heap[w.heap.size + 1]? = wr.heap[w.heap.size + 1]? := (hgrow.block _ (by simp; omega) hne9).trans (Below.heap_alloc _ _ _ hlt9)
          have e8 : w1.heap[w.heap.size]? = wr.heap[w.heap.size]? := (hgrow.block _ (by simp; omega) hne8).trans (Below.heap_alloc _ _ _ (by omega))
          have hM1 := (hM.keep e9).set (.slice (some ⟨g, 0, none⟩) (l.length + 1) cap2)
          have hM01 : MBlk (w1.setCell ⟨w.heap.size + 1, 4, none⟩ (.slice (some ⟨g, 0, none⟩) (l.length + 1) cap2)) w.heap.size 0 0 0 0 (.slice none 0 0) := (hM0.keep e8).keep (Below.heap_setCell _ _ _ _ (show w.heap.size ≠ w.heap.size + 1 by omega))
          have hO1 : OwnI (w.heap.size + 2) (w1.setCell ⟨w.heap.size + 1, 4, none⟩ (.slice (some ⟨g, 0, none⟩) (l.length + 1) cap2)) (.slice (some ⟨g, 0, none⟩) (l.length + 1) cap2) (l ++ [((pickN x (2 ^ k) : Nat) : Int)]) := by
            refine OwnI.keep (w := w1) ?_ fun j hj _ => Below.heap_setCell _ _ _ _ (show j ≠ w.heap.size + 1 by omega)
            unfold OwnI
            rw [List.map_append, List.length_append]
            exact hown1
          have hok1 := okD_of k _ (hn5 x)
          have hB1 : Below w.heap.size w (w1.setCell ⟨w.heap.size + 1, 4, none⟩ (.slice (some ⟨g, 0, none⟩) (l.length + 1) cap2)) :=
            below_set ((hb.alloc hb.size _).drew.grown hgrow (by simp; omega) fun j hj => by have := hO'.block j hj; omega) _ _ _ (by omega)
          clear hown1 hgrow hat hlt hx4 hf4 e9 e8 hM hM0 hO hO' hOd m0 m1 m2 m3 m4 hmk hb hne8 hne9
          try simp only [Exit.inBlock, Exit.then]
          go_wp2_with fail
          go_roundw
          case rel =>
            refine ⟨_, l ++ [((pickN x (2 ^ k) : Nat) : Int)], by simp; omega, by simp, hM1, hM01, hO1, fun y hy => ?_, hB1⟩
            rcases List.mem_append.1 hy with h | h
            · exact hok y h
            · rw [List.mem_singleton] at h; subst h; exact hok1
          case measure => simp [intOf]; omega
    · obtain rfl : l.length = q := by omega
      obtain ⟨z0, z1, z2, z3, z4⟩ := hM0.cells
      have hI := hO.irow
      obtain ⟨pu, cu, rfl, _⟩ := hO.irow
      have hmk0 := hM0.mark
      go_wp2_with fail
      have hOf : OwnI (w.heap.size + 2) (((((wr.setCell ⟨w.heap.size, 0, none⟩ (.int .i64 k)).setCell ⟨w.heap.size, 1, none⟩ (.int .i64 rt)).setCell ⟨w.heap.size, 2, none⟩ (.int .i64 s)).setCell ⟨w.heap.size, 3, none⟩ (.int .i64 t)).setCell ⟨w.heap.size, 4, none⟩ (.slice pu l.length cu)) (.slice pu l.length cu) l :=
        hO.keep fun j hj _ => by
          rw [Below.heap_setCell _ _ _ _ (by show j ≠ w.heap.size; omega), Below.heap_setCell _ _ _ _ (by show j ≠ w.heap.size; omega), Below.heap_setCell _ _ _ _ (by show j ≠ w.heap.size; omega), Below.heap_setCell _ _ _ _ (by show j ≠ w.heap.size; omega), Below.heap_setCell _ _ _ _ (by show j ≠ w.heap.size; omega)]
      refine bodyPost_ret (v := manV ⟨k, rt, s, t, l⟩ (.slice pu l.length cu)) (by simp [results, Tryz.results23, go_sem, manV, z0, z1, z2, z3, z4]; try rfl) rfl ⟨⟨k, rt, s, t, l⟩, _, rfl, hOf.irow, ?_, ?_⟩
      · refine (okM_iff _).2 ⟨by simp; omega, ?_, by simp; omega, by simp; omega, hcn.symm, fun y hy => ?_⟩
        · exact okD_of k rt hn4
        · exact hok y hy
      · exact below_set (below_set (below_set (below_set (below_set hb _ _ _ (Nat.le_refl _)) _ _ _ (Nat.le_refl _)) _ _ _ (Nat.le_refl _)) _ _ _ (Nat.le_refl _)) _ _ _ (Nat.le_refl _)
end Go.Proofs.YtddcbeeldjjmeaaGreatDoor.Tw
