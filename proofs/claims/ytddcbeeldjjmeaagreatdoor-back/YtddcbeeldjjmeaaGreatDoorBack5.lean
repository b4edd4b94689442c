/- The law Back: steps out of raw numbers. -/
import Derived.Test.YtddcbeeldjjmeaaGreatDoorBack3
import Derived.Test.YtddcbeeldjjmeaaGreatDoorBack4
import Derived.Test.YtddcbeeldjjmeaaGreatDoorDecP2
import Derived.Deep.AppendLies
import Derived.Deep.RegionHeld3
namespace Go.Proofs.YtddcbeeldjjmeaaGreatDoor.Tw
open Go.RowKit Go.Proofs.YtddcbeeldjjmeaaGreatDoor.Pu
set_option linter.unusedVariables false
set_option linter.unusedSimpArgs false

/-- A step's three cells. -/
def upC (u : Us) : List Value := [.int .i64 u.side, .string (S u.path), .int .i64 u.other]
def upCs (us : List Us) : List Value := (us.map upC).flatten
theorem upCs_snoc (us : List Us) (u : Us) : upCs (us ++ [u]) = upCs us ++ upC u := by simp [upCs]
theorem upCs_len (us : List Us) : (upCs us).length = us.length * 3 := by
  induction us with
  | nil => rfl
  | cons u us ih => unfold upCs at ih ⊢; simp [upC, ih]; omega
theorem upCs_get (us : List Us) : ∀ (j : Nat) (h : j < us.length), (upCs us)[j * 3]? = some (.int .i64 us[j].side) ∧ (upCs us)[j * 3 + 1]? = some (.string (S us[j].path)) ∧ (upCs us)[j * 3 + 2]? = some (.int .i64 us[j].other) := by
  induction us with
  | nil => intro j h; exact absurd h (Nat.not_lt_zero _)
  | cons u us ih =>
    intro j h
    have e : upCs (u :: us) = upC u ++ upCs us := by simp [upCs]
    rw [e]
    cases j with
    | zero => exact ⟨rfl, rfl, rfl⟩
    | succ j =>
      obtain ⟨a, b, c⟩ := ih j (by simpa using h)
      refine ⟨?_, ?_, ?_⟩
      · rw [List.getElem?_append_right (by simp [upC]; omega)]; simpa [upC, show (j + 1) * 3 - 3 = j * 3 by omega] using a
      · rw [List.getElem?_append_right (by simp [upC]; omega)]; simpa [upC, show (j + 1) * 3 + 1 - 3 = j * 3 + 1 by omega] using b
      · rw [List.getElem?_append_right (by simp [upC]; omega)]; simpa [upC, show (j + 1) * 3 + 2 - 3 = j * 3 + 2 by omega] using c

/-- A row of steps of one's own. -/
def OwnU (base : Nat) (w : World) (v : Value) (us : List Us) : Prop := w.ownsRow base 28 3 v us.length (upCs us)
theorem OwnU.nil (base : Nat) (w : World) : OwnU base w (.slice none 0 0) [] := ⟨by simp [upCs], Or.inl ⟨rfl, rfl⟩⟩
theorem OwnU.urow {base : Nat} {w : World} {v : Value} {us : List Us} (h : OwnU base w v us) : URow w v us := by
  obtain ⟨_, ⟨rfl, h0⟩ | ⟨g, cap, cur, rfl, hg, hb, hn, hcap, hcs, htk⟩⟩ := h
  · obtain rfl := List.length_eq_zero_iff.1 h0
    exact ⟨none, 0, rfl, fun i hi => absurd hi (Nat.not_lt_zero i)⟩
  · refine ⟨some ⟨g, 0, none⟩, cap, rfl, fun i hi => ⟨⟨g, 0, none⟩, rfl, ?_⟩⟩
    have ea : (⟨g, 0, none⟩ : Addr).add (i * 3) = ⟨g, i * 3, none⟩ := by
      unfold Addr.add
      by_cases h0 : i * 3 = 0
      · rw [if_pos h0, h0]
      · rw [if_neg h0]; simp
    rw [ea]
    obtain ⟨a, b, c⟩ := upCs_get us i hi
    have hl := upCs_len us
    have key : ∀ (k : Nat) (x : Value), k < us.length * 3 → (upCs us)[k]? = some x → w.cell? ⟨g, k, Option.none⟩ = some x := by
      intro k x hk hx
      rw [← htk, List.getElem?_take] at hx
      rw [if_pos (by omega), Array.getElem?_toList] at hx
      simp [World.cell?, hb, hx]
    exact ⟨key (i * 3) _ (by omega) a, key (i * 3 + 1) _ (by omega) b, key (i * 3 + 2) _ (by omega) c⟩
theorem OwnU.keep {base : Nat} {w w' : World} {v : Value} {l : List Us} (h : OwnU base w v l) (k : ∀ j, base ≤ j → j < w.heap.size → w'.heap[j]? = w.heap[j]?) : OwnU base w' v l := by
  obtain ⟨h1, ⟨rfl, h2⟩ | ⟨g, cap, cur, rfl, hg, hb, h3⟩⟩ := h
  · exact ⟨h1, Or.inl ⟨rfl, h2⟩⟩
  · refine ⟨h1, Or.inr ⟨g, cap, cur, rfl, hg, ?_, h3⟩⟩
    have hlt : g < w.heap.size := by
      by_cases hb' : g < w.heap.size
      · exact hb'
      · have : w.heap[g]? = Option.none := by simp; omega
        rw [this] at hb; cases hb
    rw [k g hg hlt]; exact hb
theorem wrapI64 (n : Int) (h0 : -9223372036854775808 ≤ n) (h1 : n ≤ 9223372036854775807) : IntKind.i64.wrap n = n := by
  simp [IntKind.wrap, IntKind.min, IntKind.max, IntKind.signed, IntKind.bits]
  omega
theorem OwnU.block {base : Nat} {w : World} {v : Value} {us : List Us} (h : OwnU base w v us) : ∀ k, v.ownBlock = some k → base ≤ k := by
  intro k hk
  obtain ⟨_, ⟨rfl, _⟩ | ⟨g, cap, cur, rfl, hg, _⟩⟩ := h
  · simp [Value.ownBlock] at hk
  · simp [Value.ownBlock] at hk; omega

set_option maxRecDepth 20000 in
set_option maxHeartbeats 1000000 in
theorem kups_any (raw : List Int) (v : Value) (w : World) (hv : IRow w v raw) (hr : ∀ x, x ∈ raw → -9223372036854775808 ≤ x ∧ x ≤ 9223372036854775807) (hl : raw.length ≤ 9223372036854775807) :
    Calls Tryz.prog 21 #[v] w fun e w' => ∃ (u : Value) (us : List Us), e = .returned u ∧ OwnU w.heap.size w' u us ∧ okUs us = true ∧ Below w.heap.size w w' := by
  obtain ⟨i0, hi, hz0, hz1, hz2⟩ := info_parts uinfo
  obtain ⟨pa, ca, rfl, hc⟩ := hv
  go_enter Tryz.func21, Tryz.ntmps21
  go_wp2_with fail
  go_loopw [3, 4] (fun u i wr => ∃ us : List Us, us.length ≤ raw.length ∧ us.length ≤ 37 ∧ i = .int .i64 us.length ∧ OwnU w.heap.size wr u us ∧ (∀ x, x ∈ us → okU x = true) ∧ Below w.heap.size w wr) (fun _ i _ => (37 - intOf i).toNat)
  case atStart => exact ⟨[], by simp, by simp, rfl, OwnU.nil _ _, by simp, Below.refl _ _⟩
  case round =>
    obtain ⟨us, hj, h37, rfl, hO, hok, hb⟩ := hrel
    by_cases hjn : us.length < raw.length
    · by_cases hj7 : us.length < 37
      · obtain ⟨a, rfl, hcell⟩ := hc us.length hjn
        have hcw : wr.cell? (a.add us.length) = some (.int .i64 raw[us.length]) := by rw [hb.cell (cell_lt hcell)]; exact hcell
        have hab : (a.add us.length).block < w.heap.size := cell_lt hcell
        have hrx := hr _ (List.getElem_mem hjn)
        generalize raw[us.length] = x at hcw hrx
        obtain ⟨hx20, hx21⟩ := tdiv_bd x 2 (by omega) hrx.1 hrx.2
        obtain ⟨hx30, hx31⟩ := tdiv_bd x 3 (by omega) hrx.1 hrx.2
        obtain ⟨hx0, hx1⟩ := hrx
        have hw2 : IntKind.i64.wrap (x.tdiv 2) = x.tdiv 2 := wrapI64 _ hx20 hx21
        have hw3 : IntKind.i64.wrap (x.tdiv 3) = x.tdiv 3 := wrapI64 _ hx30 hx31
        have hk1 := fun w => pick_any x 2 w hx0 hx1 (by omega) (by omega)
        have hk2 := fun w => kpath_any (x.tdiv 2) w hx20 hx21
        have hk3 := fun w => word_any (x.tdiv 3) w hx30 hx31
        have hn1 := pickN_lt x 2 (by omega)
        have hn3 := pickN_lt (x.tdiv 3) 4294967296 (by omega)
        generalize pickN x 2 = s at hk1 hn1
        generalize pickN (x.tdiv 3) 4294967296 = y at hk3 hn3
        have hO' := hO
        unfold OwnU at hO
        have hOd : ∀ o, ((wr.drew).alloc o).ownsRow w.heap.size 28 3 _ us.length (upCs us) := fun o => World.ownsRow.alloc (w := wr.drew) hO o
        have hbz := hb.size
        have hne : some (a.add us.length).block ≠ u3.ownBlock := fun e => by have := hO'.block _ e.symm; omega
        have hbk := hO'.block
        clear hcell hc
        go_wp2_with fail
        go_region_held3 (fun w' => w'.cell? (a.add us.length) = some (.int .i64 x)) (first | go_keep | (rw [hgrow.cell_far _ (by simp; omega) hne]; assumption) | (simp [hgrow.cell_far (a.add us.length) (by simp; omega) hne, *]))
          (first
          | (go_at_call 34; refine (hk1 _).mono ?_; rintro e w2 ⟨rfl, rfl⟩)
          | (go_at_call 59; refine (hk2 _).mono ?_; rintro e w3 ⟨p, rfl, hp, rfl⟩)
          | (go_at_call 60; refine (hk3 _).mono ?_; rintro e w4 ⟨rfl, rfl⟩)
          | (refine step_append_lies _ (by rfl) _ _ _ (by rfl) w.heap.size 28 i0 _ 3 32 Tryz.underlying24 hi hz0 hz1 hz2 rfl (by decide) _ us.length (upCs us) (by rfl) (hOd _) ⟨wr.heap.size, 0, none⟩ 1 1 _ (by rfl) (by rfl) (World.news_of_block (heap_alloc_new wr.drew _)) (by intro u hu; simp at hu; rcases hu with rfl | rfl | rfl <;> rfl) (by decide) (by unfold maxLen; omega) (by omega) (by simp; omega) _ rfl ?_; intro g cap w1 hown1 hgrow hat hlt))
        have hB1 : Below w.heap.size w w1 := (hb.alloc hbz _).drew.grown hgrow (by simp; omega) hbk
        have hO1 : OwnU w.heap.size w1 (.slice (some ⟨g, 0, none⟩) (us.length + 1) cap) (us ++ [⟨s, p, y⟩]) := by
          unfold OwnU
          rw [upCs_snoc, List.length_append]
          exact hown1
        have hok1 : okU ⟨s, p, y⟩ = true := (okU_iff _).2 ⟨by simp; omega, (isPb_iff p).2 hp, by simp [is32]; omega⟩
        clear hown1 hgrow hat hlt hk1 hk2 hk3 hO hO' hOd hne hbk hb
        try simp only [Exit.inBlock, Exit.then]
        go_wp2_with fail
        go_roundw
        case rel =>
          refine ⟨us ++ [⟨s, p, y⟩], by simp; omega, by simp; omega, by simp, hO1, fun x hx => ?_, hB1⟩
          rcases List.mem_append.1 hx with h | h
          · exact hok x h
          · rw [List.mem_singleton] at h; subst h; exact hok1
        case measure => simp [intOf]; omega
      · go_wp2
        go_ret
        exact ⟨_, us, rfl, hO, (okUs_iff us).2 ⟨h37, hok⟩, hb⟩
    · go_wp2
      go_ret
      exact ⟨_, us, rfl, hO, (okUs_iff us).2 ⟨h37, hok⟩, hb⟩
end Go.Proofs.YtddcbeeldjjmeaaGreatDoor.Tw
