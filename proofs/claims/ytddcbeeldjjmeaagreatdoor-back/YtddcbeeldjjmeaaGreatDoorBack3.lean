/- The law Back: nodes out of raw numbers. -/
import Derived.Test.YtddcbeeldjjmeaaGreatDoorBack2
import Derived.Test.YtddcbeeldjjmeaaGreatDoorEncK
import Derived.Test.YtddcbeeldjjmeaaGreatDoorEncN
namespace Go.Proofs.YtddcbeeldjjmeaaGreatDoor.Tw
open Go.RowKit Go.Proofs.YtddcbeeldjjmeaaGreatDoor.Pu
set_option linter.unusedVariables false
set_option linter.unusedSimpArgs false

set_option maxRecDepth 20000 in
set_option maxHeartbeats 1000000 in
theorem node_leaf (k v x : Int) (w : World) (h0 : -9223372036854775808 ≤ v) (h1 : v ≤ 9223372036854775807) (h2 : -9223372036854775808 ≤ x) (h3 : x ≤ 9223372036854775807) (h4 : -9223372036854775808 ≤ k) (h5 : k ≤ 9223372036854775807) (hk : pickN k 5 = 0 ∨ pickN k 5 = 1) :
    Calls Tryz.prog 18 #[.int .i64 k, .int .i64 v, .int .i64 x] w fun e w' => ∃ (m : Nd) (b : List UInt8), e = .returned (nodeV m) ∧ encN m = some b ∧ Below w.heap.size w w' := by
  have hk1 := fun w => pick_any k 5 w h4 h5 (by omega) (by omega)
  have hk2 := fun w => pick_any x 21 w h2 h3 (by omega) (by omega)
  have hn := pickN_lt x 21 (by omega)
  have hk3 := fun w => kpath_any v w h0 h1
  generalize pickN x 21 = n at hk2 hn
  rcases hk with hk | hk
  all_goals
    rw [hk] at hk1
    clear hk
    go_enter Tryz.func18, Tryz.ntmps18
    go_wp2_with fail
    refine (hk1 _).mono ?_
    rintro e w' ⟨rfl, rfl⟩
    go_wp2_with fail
    go_loopw [7] (fun s wr => ∃ (l : List UInt8), l.length ≤ n ∧ s = .string (S l) ∧ wr.heap[w.heap.size]? = some (.cells #[.int .i64 0, .string ⟨#[]⟩, .string ⟨#[]⟩, .int .i64 0, .int .i64 0] 23 (0, 0)) ∧ Below w.heap.size w wr) (fun s _ => match s with | .string t => n - t.size | _ => 0)
    case atStart => exact ⟨[], by simp, rfl, heap_alloc_new w _, (Below.refl _ w).alloc (Nat.le_refl _) _⟩
    case round =>
      obtain ⟨l, hl, rfl, hblk, hb⟩ := hrel
      have hss := S_size l
      have hfr : ∀ o, wr.frozen? ⟨w.heap.size, o, none⟩ = false := fun o => by simp [World.frozen?, hblk]
      have c0 : wr.cell? ⟨w.heap.size, 0, none⟩ = some (.int .i64 0) := by simp [World.cell?, hblk]
      have c1 : wr.cell? ⟨w.heap.size, 1, none⟩ = some (.string ⟨#[]⟩) := by simp [World.cell?, hblk]
      have c2 : wr.cell? ⟨w.heap.size, 2, none⟩ = some (.string ⟨#[]⟩) := by simp [World.cell?, hblk]
      have c3 : wr.cell? ⟨w.heap.size, 3, none⟩ = some (.int .i64 0) := by simp [World.cell?, hblk]
      have c4 : wr.cell? ⟨w.heap.size, 4, none⟩ = some (.int .i64 0) := by simp [World.cell?, hblk]
      by_cases hlt : l.length < n
      · have hz : ((l.length : Int) + 1 == 0) = false := by simp; omega
        have hHB : Hid _ := hblk
        have hlt2 := lt_of_cells hblk
        clear c0 c1 c2 c3 c4 hfr hblk
        obtain ⟨c, hx⟩ : ∃ c : UInt8, x.tdiv (l.length + 1) % 256 = c.toNat := ⟨b8 (x.tdiv (l.length + 1) % 256).toNat, by rw [b8_toNat _ (by omega)]; omega⟩
        have hcv := fun W => (Own.one 0 W c _ hx (Nat.zero_le _)).run (by simp)
        have hcs : (S l).size + (S [c]).size ≤ 9223372036854775807 := by rw [S_size, S_size]; simp; omega
        have e0 := S_snoc l c
        have HX : Hid _ := hx
        clear hx
        go_wp2_with fail
        refine (hk2 _).mono ?_
        rintro e w' ⟨rfl, rfl⟩
        go_wp2_with fail
        go_roundw
        case rel =>
          refine ⟨l ++ [c], by simp; omega, by rw [← e0], (Below.heap_alloc _ _ _ hlt2).trans hHB.out, hb.alloc hb.size _⟩
        case measure => simp [S_size]; omega
      · go_wp2_with fail
        refine (hk2 _).mono ?_
        rintro e w' ⟨rfl, rfl⟩
        clear hblk
        go_wp2_with fail
        refine (hk3 _).mono ?_
        rintro e w' ⟨p, rfl, hp, rfl⟩
        go_wp2
        have hP := (isPb_iff p).2 hp
        refine bodyPost_ret (v := nodeV ⟨0, p, l, 0, 0⟩) (by simp [results, Tryz.results18, go_sem, nodeV, c0, c1, c2, c3, c4]; try rfl) rfl ⟨_, 0 :: (ePath p ++ eVal l), rfl, ?_, ?_⟩
        · unfold encN
          rw [if_neg (by simp [empty]), if_pos ⟨rfl, hP, (show l.length ≤ 20 by omega), rfl, rfl⟩]
        · exact below_set (below_set (below_set (below_set (below_set hb _ _ _ (Nat.le_refl _)) _ _ _ (Nat.le_refl _)) _ _ _ (Nat.le_refl _)) _ _ _ (Nat.le_refl _)) _ _ _ (Nat.le_refl _)

set_option maxRecDepth 20000 in
set_option maxHeartbeats 1000000 in
theorem node_branch (k v x : Int) (w : World) (h0 : -9223372036854775808 ≤ v) (h1 : v ≤ 9223372036854775807) (h2 : -9223372036854775808 ≤ x) (h3 : x ≤ 9223372036854775807) (h4 : -9223372036854775808 ≤ k) (h5 : k ≤ 9223372036854775807) (hk : pickN k 5 = 2 ∨ pickN k 5 = 3) :
    Calls Tryz.prog 18 #[.int .i64 k, .int .i64 v, .int .i64 x] w fun e w' => ∃ (m : Nd) (b : List UInt8), e = .returned (nodeV m) ∧ encN m = some b ∧ Below w.heap.size w w' := by
  have hk1 := fun w => pick_any k 5 w h4 h5 (by omega) (by omega)
  have hk2 := fun w => word_any x w h2 h3
  have hk4 := fun w => word_any v w h0 h1
  have hn1 := pickN_lt x 4294967296 (by omega)
  have hn2 := pickN_lt v 4294967296 (by omega)
  have hk3 := fun w => kpath_any v w h0 h1
  generalize pickN x 4294967296 = n at hk2 hn1
  generalize pickN v 4294967296 = q at hk4 hn2
  rcases hk with hk | hk
  all_goals
    rw [hk] at hk1
    clear hk
    have tok : True := trivial
    go_enter Tryz.func18, Tryz.ntmps18
    go_wp2_with fail
    refine (hk1 _).mono ?_
    rintro e w' ⟨rfl, rfl⟩
    go_wp2_with (first
      | (go_at_call 59; refine (hk3 _).mono ?_; rintro e w2 ⟨p, rfl, hp, rfl⟩)
      | (go_at_call 60; have _t := tok; refine (hk2 _).mono ?_; rintro e w3 ⟨rfl, rfl⟩; clear tok)
      | (go_at_call 60; refine (hk4 _).mono ?_; rintro e w4 ⟨rfl, rfl⟩))
    have hP := (isPb_iff p).2 hp
    refine bodyPost_ret (v := nodeV ⟨1, p, [], n, q⟩) (by simp [results, Tryz.results18, go_sem, nodeV]; try rfl) rfl ⟨_, 1 :: (ePath p ++ (e4 n ++ e4 q)), rfl, ?_, ?_⟩
    · unfold encN
      rw [if_neg (by simp [empty]), if_neg (by simp), if_pos ⟨rfl, hP, rfl, by simp [is32]; omega, by simp [is32]; omega⟩]
      simp
    · exact (Below.refl _ w).alloc (Nat.le_refl _) _

set_option maxRecDepth 20000 in
set_option maxHeartbeats 1000000 in
theorem node_empty (k v x : Int) (w : World) (h4 : -9223372036854775808 ≤ k) (h5 : k ≤ 9223372036854775807) (hk : pickN k 5 = 4) :
    Calls Tryz.prog 18 #[.int .i64 k, .int .i64 v, .int .i64 x] w fun e w' => ∃ (m : Nd) (b : List UInt8), e = .returned (nodeV m) ∧ encN m = some b ∧ Below w.heap.size w w' := by
  have hk1 := fun w => pick_any k 5 w h4 h5 (by omega) (by omega)
  rw [hk] at hk1
  clear hk
  go_enter Tryz.func18, Tryz.ntmps18
  go_wp2_with fail
  refine (hk1 _).mono ?_
  rintro e w' ⟨rfl, rfl⟩
  go_wp2
  refine bodyPost_ret (v := nodeV empty) (by simp [results, Tryz.results18, go_sem, nodeV, empty]; try rfl) rfl ⟨_, [2], rfl, ?_, ?_⟩
  · unfold encN
    rw [if_pos rfl]
  · exact (Below.refl _ w).alloc (Nat.le_refl _) _

theorem encN_ne (m : Nd) (b : List UInt8) (h : encN m = some b) : b ≠ [] := by
  intro e
  subst e
  have := encN_pNode m [] [] h
  simp [pNode] at this

theorem node_any (k v x : Int) (w : World) (h0 : -9223372036854775808 ≤ v) (h1 : v ≤ 9223372036854775807) (h2 : -9223372036854775808 ≤ x) (h3 : x ≤ 9223372036854775807) (h4 : -9223372036854775808 ≤ k) (h5 : k ≤ 9223372036854775807) :
    Calls Tryz.prog 18 #[.int .i64 k, .int .i64 v, .int .i64 x] w fun e w' => ∃ (m : Nd) (b : List UInt8), e = .returned (nodeV m) ∧ encN m = some b ∧ Below w.heap.size w w' := by
  have h := pickN_lt k 5 (by omega)
  by_cases hk : pickN k 5 = 0 ∨ pickN k 5 = 1
  · exact node_leaf k v x w h0 h1 h2 h3 h4 h5 hk
  · by_cases hk2 : pickN k 5 = 2 ∨ pickN k 5 = 3
    · exact node_branch k v x w h0 h1 h2 h3 h4 h5 hk2
    · exact node_empty k v x w h4 h5 (by omega)
end Go.Proofs.YtddcbeeldjjmeaaGreatDoor.Tw
