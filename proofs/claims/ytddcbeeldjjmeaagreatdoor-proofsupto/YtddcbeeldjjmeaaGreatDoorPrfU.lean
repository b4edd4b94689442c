/- Rows of steps in memory; what is written of steps. -/
import Derived.Test.YtddcbeeldjjmeaaGreatDoorPrf
import Derived.Test.YtddcbeeldjjmeaaGreatDoorEncT
import Derived.Test.YtddcbeeldjjmeaaGreatDoorEncK
namespace Go.Proofs.YtddcbeeldjjmeaaGreatDoor.Tw
open Go.RowKit Go.Proofs.YtddcbeeldjjmeaaGreatDoor.Pu
set_option linter.unusedVariables false
set_option linter.unusedSimpArgs false

/-- A row of steps in memory, as a slice: three cells each. -/
def URow (w : World) (v : Value) (us : List Us) : Prop :=
  ∃ p cap, v = .slice p us.length cap ∧ ∀ (i : Nat) (h : i < us.length), ∃ a, p = some a ∧ w.cell? (a.add (i * 3)) = some (.int .i64 us[i].side) ∧ w.cell? ⟨(a.add (i * 3)).block, (a.add (i * 3)).off + 1, none⟩ = some (.string (S us[i].path)) ∧ w.cell? ⟨(a.add (i * 3)).block, (a.add (i * 3)).off + 2, none⟩ = some (.int .i64 us[i].other)
theorem URow.to {w w' : World} {v : Value} {us : List Us} (h : URow w v us) (k : Below w.heap.size w w') : URow w' v us := by
  obtain ⟨p, cap, rfl, hc⟩ := h
  refine ⟨p, cap, rfl, fun i hi => ?_⟩
  obtain ⟨a, ha, h0, h1, h2⟩ := hc i hi
  exact ⟨a, ha, by rw [k.cell (cell_lt h0)]; exact h0, by rw [k.cell (cell_lt h1)]; exact h1, by rw [k.cell (cell_lt h2)]; exact h2⟩
/-- A proof as the program's value. -/
def prfV (p : Pf) (v : Value) : Value := .agg #[.int .i64 p.bottom.kind, .string (S p.bottom.path), .string (S p.bottom.value), .int .i64 p.bottom.left, .int .i64 p.bottom.right, v]
/-- Six cells of a block. -/
def C6 (b : Nat) (c0 c1 c2 c3 c4 c5 : Value) (w : World) : Prop :=
  w.cell? ⟨b, 0, none⟩ = some c0 ∧ w.cell? ⟨b, 1, none⟩ = some c1 ∧ w.cell? ⟨b, 2, none⟩ = some c2 ∧ w.cell? ⟨b, 3, none⟩ = some c3 ∧ w.cell? ⟨b, 4, none⟩ = some c4 ∧ w.cell? ⟨b, 5, none⟩ = some c5
theorem C6.below {B : Nat} {w0 w1 : World} {b : Nat} {c0 c1 c2 c3 c4 c5 : Value} (h5 : C6 b c0 c1 c2 c3 c4 c5 w0) (h : Below B w0 w1) (hb : b < B) : C6 b c0 c1 c2 c3 c4 c5 w1 := by
  obtain ⟨k0, k1, k2, k3, k4, k5⟩ := h5
  exact ⟨(h.cell hb).trans k0, (h.cell hb).trans k1, (h.cell hb).trans k2, (h.cell hb).trans k3, (h.cell hb).trans k4, (h.cell hb).trans k5⟩
theorem C6.new (w : World) (c0 c1 c2 c3 c4 c5 : Value) (t : TypeId) : C6 w.heap.size c0 c1 c2 c3 c4 c5 (w.alloc (.cells #[c0, c1, c2, c3, c4, c5] t)) :=
  ⟨by simp, by simp, by simp, by simp, by simp, by simp⟩

theorem Own.none (base : Nat) (w : World) : Own base w (.slice none 0 0) [] := ⟨by simp [cellsB], Or.inl ⟨rfl, rfl⟩⟩
theorem eNum_one (n : Nat) (h : n < 128) : (eNum n).length = 1 := by
  unfold eNum
  rw [eNumF_lt 9 n h]
  rfl
theorem eU_len (u : Us) (h : okU u = true) : (eU u).length ≤ 11 := by
  have h37 := ((isPb_iff _).1 ((okU_iff u).1 h).2.1).2
  unfold eU ePath
  simp only [List.length_cons, List.length_append, e4, List.length_nil]
  rw [eNum_one _ (by omega), pack_length]
  omega
theorem eUs_len (us : List Us) (h : ∀ u, u ∈ us → okU u = true) (j : Nat) : (eUs (us.take j)).length ≤ 11 * us.length := by
  have key : ∀ l : List Us, (∀ u, u ∈ l → okU u = true) → (eUs l).length ≤ 11 * l.length := by
    intro l
    induction l with
    | nil => intro _; simp [eUs]
    | cons u l ih =>
      intro hl
      rw [eUs_cons, List.length_append]
      have a := eU_len u (hl u (List.mem_cons_self ..))
      have b := ih fun x hx => hl x (List.mem_cons_of_mem _ hx)
      simp only [List.length_cons]
      omega
  have := key (us.take j) fun u hu => h u (List.mem_of_mem_take hu)
  rw [List.length_take] at this
  have : 11 * min j us.length ≤ 11 * us.length := Nat.mul_le_mul_left _ (Nat.min_le_right _ _)
  omega
theorem eUs_snoc (us : List Us) (j : Nat) (h : j < us.length) : eUs (us.take (j + 1)) = eUs (us.take j) ++ eU us[j] := by
  have e : us.take (j + 1) = us.take j ++ [us[j]] := by rw [List.take_add_one, List.getElem?_eq_getElem h]; rfl
  rw [e]
  simp only [eUs, List.map_append, List.flatten_append, List.map_cons, List.map_nil, List.flatten_cons, List.flatten_nil, List.append_nil]

theorem Own.lt {base : Nat} {w : World} {v : Value} {l : List UInt8} (h : Own base w v l) : ∀ k, v.ownBlock = some k → k < w.heap.size := by
  intro k hk
  obtain ⟨_, ⟨rfl, _⟩ | ⟨g, cap, cur, rfl, hg, hb, _⟩⟩ := h
  · simp [Value.ownBlock] at hk
  · simp [Value.ownBlock] at hk
    subst hk
    by_cases hl : g < w.heap.size
    · exact hl
    · rw [Array.getElem?_eq_none (by omega)] at hb; cases hb
set_option maxRecDepth 20000 in
set_option maxHeartbeats 400000 in
theorem addFour_f (base : Nat) (v : Value) (l : List UInt8) (n : Int) (w : World) (h0 : 0 ≤ n) (hn : n < 4294967296) (hl : l.length ≤ 1000000) (hown : Own base w v l) (hbase : base ≤ w.heap.size) :
    Calls Tryz.prog 126 #[v, .int .i64 n] w fun e w' => ∃ v', e = .returned v' ∧ Own base w' v' (l ++ e4 n.toNat) ∧ Below base w w' ∧ Foreign w w' := by
  obtain ⟨N, rfl⟩ := Int.eq_ofNat_of_zero_le h0
  obtain ⟨i0, hi, hz0, hz1, hz2⟩ := info_parts u8info
  have hown0 := hown
  unfold Own at hown
  go_enter Tryz.func126, Tryz.ntmps126
  go_wp2_with (at_builtin; refine wpList_append_own _ rfl (.tmp 5) (.tmp 17) 100 rfl base 5 i0 (.int .u8 0) 1 1 Tryz.underlying100 hi hz0 hz1 hz2 rfl (by decide) _ _ _ rfl (hown.alloc _) ⟨w.heap.size, 0, none⟩ 4 4 _ rfl rfl (four_new _ _ _ _ _ _) ?c2 ?c3 ?c4 ?c5 ?_)
  case c2 => intro u hu; simp at hu; rcases hu with rfl | rfl | rfl | rfl <;> rfl
  case c3 => unfold maxLen; omega
  case c4 => omega
  case c5 => simp; omega
  intro v' w1 hown1 hgrow _
  have hO : Own base w1 v' (l ++ e4 N) := by
    unfold Own
    have e : ∀ (x y z u : Int), x = ((b8 (N / 16777216 % 256)).toNat : Int) → y = ((b8 (N / 65536 % 256)).toNat : Int) → z = ((b8 (N / 256 % 256)).toNat : Int) → u = ((b8 (N % 256)).toNat : Int) → cellsB l ++ [Value.int .u8 x, .int .u8 y, .int .u8 z, .int .u8 u] = cellsB (l ++ e4 N) := by
      intro x y z u hx hy hz hu
      subst hx hy hz hu
      simp [cellsB, e4]
    rw [e _ _ _ _ (by rw [b8_toNat _ (by omega)]; omega) (by rw [b8_toNat _ (by omega)]; omega) (by rw [b8_toNat _ (by omega)]; omega) (by rw [b8_toNat _ (by omega)]; omega)] at hown1
    rw [List.length_append]
    exact hown1
  have hB := ((Below.refl _ w).alloc hbase _).grown hgrow (by simp; omega) (Own.block hown0)
  have hF := (Foreign.alloc w _).trans (Foreign.grown (Own.allocd hown0 _) hgrow)
  clear hown1 hgrow hown hown0
  go_wp2
  go_ret
  exact ⟨_, rfl, hO, hB, hF⟩
end Go.Proofs.YtddcbeeldjjmeaaGreatDoor.Tw
