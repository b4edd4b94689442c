/- What lies in memory and is no row of bytes stays, when bytes are added: for a short number, and for a path. -/
import Derived.Test.YtddcbeeldjjmeaaGreatDoorEnc
namespace Go.Proofs.YtddcbeeldjjmeaaGreatDoor.Tw
open Go.RowKit Go.Proofs.YtddcbeeldjjmeaaGreatDoor.Pu
set_option linter.unusedVariables false
set_option linter.unusedSimpArgs false

/-- Blocks of other than bytes are as they were. -/
def Foreign (w w' : World) : Prop := ∀ (b : Nat) (c : Array Value) (T : TypeId) (fz : Nat × Nat), T ≠ 5 → w.heap[b]? = some (.cells c T fz) → w'.heap[b]? = some (.cells c T fz)
theorem Foreign.refl (w : World) : Foreign w w := fun _ _ _ _ _ h => h
theorem Foreign.trans {a b c : World} (h : Foreign a b) (k : Foreign b c) : Foreign a c := fun x y z fz hz hb => k x y z fz hz (h x y z fz hz hb)
theorem lt_of_cells {w : World} {b : Nat} {o : Obj} (h : w.heap[b]? = some o) : b < w.heap.size := by
  by_cases hl : b < w.heap.size
  · exact hl
  · rw [Array.getElem?_eq_none (by omega)] at h; cases h
theorem Foreign.alloc (w : World) (o : Obj) : Foreign w (w.alloc o) := fun b c T fz _ hb => (Below.heap_alloc _ _ _ (lt_of_cells hb)).trans hb
theorem Foreign.below {B : Nat} {w w' : World} (h : Below B w w') (hB : w.heap.size ≤ B) : Foreign w w' := fun b c T fz _ hb => (h.block b (Nat.lt_of_lt_of_le (lt_of_cells hb) hB)).trans hb
theorem Foreign.grown {base : Nat} {w w' : World} {v : Value} {l : List UInt8} (hO : Own base w v l) (hg : w.grownBy w' v.ownBlock) : Foreign w w' := fun b c T fz hT hb => by
  refine (hg.block b (lt_of_cells hb) fun e => ?_).trans hb
  obtain ⟨_, ⟨rfl, _⟩ | ⟨g, cap, cur, rfl, _, hbk, _⟩⟩ := hO
  · simp [Value.ownBlock] at e
  · simp [Value.ownBlock] at e
    subst e
    rw [hb] at hbk
    simp only [Option.some.injEq, Obj.cells.injEq] at hbk
    exact hT hbk.2.1

theorem Own.allocd {base : Nat} {w : World} {v : Value} {l : List UInt8} (h : Own base w v l) (o : Obj) : Own base (w.alloc o) v l := h.keep fun j hj => Below.heap_alloc _ _ _ hj

set_option maxRecDepth 20000 in
set_option maxHeartbeats 400000 in
theorem addNumber_f (base : Nat) (v : Value) (l : List UInt8) (n : Nat) (w : World) (hn : n < 128) (hl : l.length ≤ 1000) (hown : Own base w v l) (hbase : base ≤ w.heap.size) :
    Calls Tryz.prog 124 #[v, .int .i64 n] w fun e w' => ∃ v', e = .returned v' ∧ Own base w' v' (l ++ eNum n) ∧ Below base w w' ∧ Foreign w w' := by
  obtain ⟨i0, hi, hz0, hz1, hz2⟩ := info_parts u8info
  have he : l ++ eNum n = l ++ [b8 n] := by unfold eNum; rw [eNumF_lt 9 n hn]
  rw [he]
  clear he
  go_enter Tryz.func124, Tryz.ntmps124
  go_wp2
  go_loopw [0, 1] (fun v' x wr => v' = v ∧ x = .int .i64 (n : Nat) ∧ wr = w) (fun _ x _ => (intOf x).toNat)
  case atStart => exact ⟨rfl, rfl, rfl⟩
  case round =>
    obtain ⟨rfl, rfl, rfl⟩ := hrel
    have hO := hown
    unfold Own at hown
    go_wp2_with (at_builtin; refine wpList_append_own _ rfl (.tmp 16) (.tmp 19) 100 rfl base 5 i0 (.int .u8 0) 1 1 Tryz.underlying100 hi hz0 hz1 hz2 rfl (by decide) _ _ _ rfl (hown.alloc _) ⟨wr.heap.size, 0, none⟩ 1 1 _ rfl rfl (cell_one_new _ _ _) ?c2 ?c3 ?c4 ?c5 ?_)
    case c2 => intro u hu; simp at hu; subst hu; rfl
    case c3 => unfold maxLen; omega
    case c4 => omega
    case c5 => simp; omega
    intro v' w1 hown1 hgrow _
    have hO1 := Own.snoc (b8 n) (by rw [b8_toNat n (by omega)]) hown1
    have hB := ((Below.refl base wr).alloc hbase _).grown hgrow (by simp; omega) (Own.block hO)
    have hF := (Foreign.alloc wr _).trans (Foreign.grown (hO.allocd _) hgrow)
    clear hown1 hgrow hown
    go_wp2
    go_ret
    exact ⟨_, rfl, hO1, hB, hF⟩

set_option maxRecDepth 20000 in
set_option maxHeartbeats 1000000 in
theorem addPath_f (base : Nat) (v : Value) (l s : List UInt8) (w : World) (hs : isP s) (hl : l.length ≤ 500) (hown : Own base w v l) (hbase : base ≤ w.heap.size) :
    Calls Tryz.prog 127 #[v, .string (S s)] w fun e w' => ∃ v', e = .returned v' ∧ Own base w' v' (l ++ ePath s) ∧ Below base w w' ∧ Foreign w w' := by
  have h37 := hs.2
  obtain ⟨i0, hi, hz0, hz1, hz2⟩ := info_parts u8info
  have hk := addNumber_f base v l s.length w (by omega) (by omega) hown hbase
  have hss := S_size s
  have hel : (eNum s.length).length ≤ 10 := eNumF_len 10 s.length
  obtain ⟨K, hK⟩ : ∃ K, K = (s.length + 7) / 8 := ⟨_, rfl⟩
  have hK5 : K ≤ 5 := by omega
  obtain ⟨M, hM⟩ : ∃ M, M = madeCells (Value.int .u8 0).cells K := ⟨_, rfl⟩
  have hmk : ∀ W : World, (Instr.makeSlice 100 (.int .i64 (((s.length : Int) + 7) / 8)) (.int .i64 (((s.length : Int) + 7) / 8))).run Tryz.prog W = .ok (.slice (some ⟨W.heap.size, 0, none⟩) K K) (W.alloc (.cells M 5)) := fun W => by
    have h := run_make (P := Tryz.prog) W 100 5 i0 (.int .u8 0) Tryz.underlying100 hi hz0 .i64 .i64 (((s.length : Int) + 7) / 8) (((s.length : Int) + 7) / 8) (by omega) (by omega) (by rw [hz2]; omega) (by omega)
    rw [hz1, show (((s.length : Int) + 7) / 8).toNat = K from by omega, Nat.mul_one, ← hM] at h
    exact h
  have HM : Hid _ := hM
  have HK : Hid _ := hK
  clear hM hK
  go_enter Tryz.func127, Tryz.ntmps127
  go_wp2_with fail
  refine hk.mono ?_
  rintro e w1 ⟨v1, rfl, hO1, hB1, hF1⟩
  go_wp2_with fail
  obtain ⟨g, hg⟩ : ∃ g, g = w1.heap.size := ⟨_, rfl⟩
  obtain ⟨wm, hwm⟩ : ∃ wm, wm = w1.alloc (.cells M 5) := ⟨_, rfl⟩
  have hrow : BRow wm g (packAt s 0) := by rw [hwm, hg, packAt_zero, HM.out, HK.out]; exact BRow.new w1 _
  have hBg : Below g w1 wm := by rw [hwm, hg]; exact (Below.refl _ w1).alloc (Nat.le_refl _) _
  have hbg : base ≤ g := by have := hB1.size; omega
  have hg1 : Hid (g = w1.heap.size) := hg
  rw [← hwm, ← hg]
  clear hg hwm hmk hk hown
  go_loopw [18] (fun i wr => ∃ k : Nat, k ≤ s.length ∧ i = .int .i64 k ∧ BRow wr g (packAt s k) ∧ Below g w1 wr) (fun i _ => s.length - (intOf i).toNat)
  case atStart => exact ⟨0, by omega, rfl, hrow, hBg⟩
  case round =>
    obtain ⟨k, hk, rfl, hrow', hb5⟩ := hrel
    by_cases hlt : k < s.length
    · have hmk := hrow'.mark (k / 8)
      have hpk : k / 8 < K := by have := HK.out; omega
      have hpl := packAt_length s k
      obtain ⟨x, hx⟩ : ∃ x, x = packB (s.take k) (k / 8) := ⟨_, rfl⟩
      have hcl : wr.cell? ⟨g, k / 8, none⟩ = some (.int .u8 (x : Nat)) := by
        have hlen : k / 8 < (packAt s k).length := by rw [hpl]; omega
        have h1 := hrow'.cell (k / 8) hlen
        have h2 := packAt_get s k hlt
        rw [List.getElem?_eq_getElem hlen] at h2
        rw [h1, Option.some.inj h2, b8_toNat _ (packB_lt _ _), hx]
      have HX : Hid _ := hx
      clear hx hpl
      go_wp2
      go_region
      go_wp2
      go_roundw
      case rel =>
        refine ⟨k + 1, by omega, by go_num, ?_, ?_⟩
        · rw [← packAt_set s k hlt]
          have hxx := HX.out
          subst hxx
          exact hrow'.set (k / 8) _ _ (or_code s k hs hlt _)
        · exact (below_set hb5 _ _ _ (Nat.le_refl _)).drew
      case measure => simp [intOf]; omega
    · obtain rfl : k = s.length := by omega
      rw [packAt_full] at hrow'
      have hO2 : Own base wr v1 (l ++ eNum s.length) := hO1.keep fun j hj => hb5.block j (by rw [hg1.out]; exact hj)
      have hF2 := hF1.trans (Foreign.below hb5 (by rw [hg1.out]; exact Nat.le_refl _))
      have hpl : (pack s).length = K := by rw [pack_length, HK.out]
      have hnews : ∀ j u, (cellsB (pack s))[j]? = some u → wr.cell? ((⟨g, 0, none⟩ : Addr).add j) = some u := by
        intro j u hj
        unfold cellsB at hj
        rw [List.getElem?_map] at hj
        cases hp : (pack s)[j]? with
        | none => rw [hp] at hj; cases hj
        | some c =>
          rw [hp] at hj
          have hlj : j < (pack s).length := by
            by_cases h : j < (pack s).length
            · exact h
            · rw [List.getElem?_eq_none (by omega)] at hp; cases hp
          have hc := hrow'.cell j hlj
          rw [List.getElem?_eq_getElem hlj] at hp
          rw [Option.some.inj hp] at hc
          simp only [Option.map_some, Option.some.injEq] at hj
          have ea : (⟨g, 0, none⟩ : Addr).add j = ⟨g, j, none⟩ := by cases j <;> simp [Addr.add]
          rw [← hj, ← hc, ea]
      have hgz : w1.heap.size ≤ wr.heap.size := hb5.size
      have hone : ∀ u, u ∈ cellsB (pack s) → u.oneCell' = true := by
        intro u hu
        unfold cellsB at hu
        obtain ⟨c, _, rfl⟩ := List.mem_map.1 hu
        rfl
      have hO2' := hO2
      unfold Own at hO2
      go_wp2_with (at_builtin; refine wpList_append_own _ rfl (.tmp 37) (.tmp 38) 100 rfl base 5 i0 (.int .u8 0) 1 1 Tryz.underlying100 hi hz0 hz1 hz2 rfl (by decide) _ _ _ rfl hO2 ⟨g, 0, none⟩ K K (cellsB (pack s)) rfl ?c1 hnews hone ?c3 ?c4 ?c5 ?_)
      case c1 => simp [cellsB, hpl]
      case c3 => rw [List.length_append]; unfold maxLen; omega
      case c4 => rw [List.length_append]; omega
      case c5 => have := hB1.size; omega
      intro v' w2 hown2 hgrow _
      have hO : Own base w2 v' (l ++ ePath s) := by
        unfold Own ePath
        rw [← cellsB_append] at hown2
        rw [← List.append_assoc, List.length_append, List.length_append, hpl]
        exact hown2
      have hB := (hB1.trans (hb5.mono hbg)).grown hgrow (by have := hB1.size; omega) (Own.block hO2')
      have hF := hF2.trans (Foreign.grown hO2' hgrow)
      clear hown2 hgrow hO1 hB1 hel hO2 hO2' hnews hone hb5 hrow' hF1 hF2
      go_wp2
      go_ret
      exact ⟨_, rfl, hO, hB, hF⟩
end Go.Proofs.YtddcbeeldjjmeaaGreatDoor.Tw
