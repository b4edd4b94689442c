/- The document's answer: EncodeManifest, whole. -/
import Derived.Test.YtddcbeeldjjmeaaDoorRefM2
import Derived.Test.YtddcbeeldjjmeaaDoorEncM
import Derived.Deep.CutRange
import Derived.Deep.RegionHeldLaw
import Derived.Deep.DrawnRows
namespace Go.Proofs.YtddcbeeldjjmeaaDoor.Tw
open Go.RowKit Go.Proofs.YtddcbeeldjjmeaaDoor.Pu
set_option linter.unusedVariables false
set_option linter.unusedSimpArgs false

attribute [local go_sem ↓] Go.wp_at_zero Go.wp_at_succ
theorem ltc {w : World} {b : Nat} {o : Obj} (h : w.heap[b]? = some o) : b < w.heap.size := by
  by_cases hl : b < w.heap.size
  · exact hl
  · rw [Array.getElem?_eq_none (by omega)] at h; cases h

theorem lt_of_c5 {b : Nat} {c0 c1 c2 c3 c4 : Value} {w : World} (h : C5 b c0 c1 c2 c3 c4 w) : b < w.heap.size := cell_lt h.1

set_option maxRecDepth 20000 in
set_option maxHeartbeats 16000000 in
theorem rencM_run (k s t : Nat) (rt : Int) (ds : List Int) (v : Value) (w : World) (hv : IRow w v ds) (h1 : 1 ≤ k) (h2 : k ≤ 32) (h3 : okD k rt = true) (h4 : 8 ≤ s ∧ s ≤ 1000) (h5 : 1 ≤ t ∧ t ≤ 100000) (h6 : (ds.length : Int) = ((t : Int) + s - 1) / s) (hl : ds.length ≤ 100000) :
    Calls Tryd.prog 10 #[.agg #[.int .i64 k, .int .i64 rt, .int .i64 s, .int .i64 t, v]] w fun e w' =>
      ((∀ d, d ∈ ds → okD k d = true) ∧ e = .returned (.tuple #[.string (S (b8 k :: (e4 rt.toNat ++ (eNum s ++ (eNum t ++ eDs ds))))), .int .i64 0]) ∨ ¬ (∀ d, d ∈ ds → okD k d = true) ∧ e = .returned (.tuple #[.string (S []), .int .i64 3])) ∧ Below w.heap.size w w' := by
  obtain ⟨hp1, hp2⟩ := pow32 k h2
  have hwk : IntKind.i64.wrap (2 ^ k) = 2 ^ k := wrapI64m _ (by omega) (by omega)
  have hk0 : ¬ (k : Int) < 1 := by omega
  have hk1 : ¬ (32 : Int) < (k : Int) := by omega
  have h3' := of_decide_eq_true h3
  have hr0 : ¬ rt < 0 := by omega
  have hr1 : ¬ (2 : Int) ^ k ≤ rt := by omega
  have hs0 : ¬ (s : Int) < 8 := by omega
  have hs1 : ¬ (1000 : Int) < (s : Int) := by omega
  have hz : ((s : Int) == 0) = false := by simp; omega
  have hd0 : decide ((t : Int) < 1) = false := by simp; omega
  have hd1 : decide ((100000 : Int) < (t : Int)) = false := by simp; omega
  have hrt : 0 ≤ rt ∧ rt < 4294967296 := by omega
  have hw1 : IntKind.i64.wrap ((t : Int) + s) = (t : Int) + s := wrapI64m _ (by omega) (by omega)
  have hw2 : IntKind.i64.wrap ((t : Int) + s - 1) = (t : Int) + s - 1 := wrapI64m _ (by omega) (by omega)
  have hq : ((t : Int) + s - 1) / s = (ds.length : Int) := h6.symm
  have hw3 : IntKind.i64.wrap (ds.length : Int) = (ds.length : Int) := wrapI64m _ (by omega) (by omega)
  have hcv : ∀ (W : World) (b : Nat), W.heap[b]? = some (.cells #[.int .u8 k] 5 (0, 0)) → (Go.convert 60 9 (.slice (some ⟨b, 0, none⟩) 1 1)).run Tryd.prog W = .ok (.string (S [b8 k])) W := fun W b h =>
    Own.run (base := 0) (l := [b8 k]) (v := .slice (some ⟨b, 0, none⟩) 1 1) ⟨by simp [cellsB], Or.inr ⟨b, 1, _, rfl, Nat.zero_le _, h, Nat.le_refl _, by decide, by simp, by simp [cellsB, b8_toNat k (by omega)]⟩⟩ (by simp)
  have hwu : IntKind.u8.wrap (k : Int) = k := by simp [IntKind.wrap, IntKind.min, IntKind.max, IntKind.signed, IntKind.bits]; omega
  have hnw : ∀ W : World, (W.alloc (.cells #[.int .u8 k] 5)).heap[W.heap.size]? = some (.cells #[.int .u8 k] 5 (0, 0)) := fun W => heap_alloc_new W _
  have hnd : ∀ W : World, (W.alloc (.cells #[.int .u8 k] 5)).drew.heap[W.heap.size]? = some (.cells #[.int .u8 k] 5 (0, 0)) := fun W => heap_alloc_new W _
  have hk4 := fun w => rfour_any rt w hrt.1 hrt.2
  have hkn : ∀ n : Nat, n < 268435456 → ∀ w, _ := fun n hn w => rnumber_any n w hn
  have hks := hkn s (by omega)
  have hkt := hkn t (by omega)
  have hl1 : (S [b8 k]).size = 1 := rfl
  have hl2 : (S (e4 rt.toNat)).size = 4 := rfl
  have hl3 : (S (eNum s)).size ≤ 10 := by rw [S_size]; exact eNumF_len 10 s
  have hl4 : (S (eNum t)).size ≤ 10 := by rw [S_size]; exact eNumF_len 10 t
  have c1 := cat_run (S [b8 k]) (S (e4 rt.toNat)) (by omega) (by omega)
  have c2 := cat_run (S [b8 k] ++ S (e4 rt.toNat)) (S (eNum s)) (by rw [ByteArray.size_append]; omega) (by omega)
  have c3 := cat_run (S [b8 k] ++ S (e4 rt.toNat) ++ S (eNum s)) (S (eNum t)) (by rw [ByteArray.size_append, ByteArray.size_append]; omega) (by omega)
  have hcA : ∀ W : World, (Go.convert 60 9 (.slice (some ⟨W.heap.size, 0, none⟩) 1 1)).run Tryd.prog (W.alloc (.cells #[.int .u8 k] 5)).drew = .ok (.string (S [b8 k])) (W.alloc (.cells #[.int .u8 k] 5)).drew := fun W => hcv _ _ (hnd W)
  have hcB : ∀ W : World, (Go.convert 60 9 (.slice (some ⟨W.heap.size, 0, none⟩) 1 1)).run Tryd.prog (W.alloc (.cells #[.int .u8 k] 5)) = .ok (.string (S [b8 k])) (W.alloc (.cells #[.int .u8 k] 5)) := fun W => hcv _ _ (hnw W)
  have tok : True := trivial
  obtain ⟨p, cap, rfl, hc⟩ := hv
  have hv0 := C5.new w (.int .i64 k) (.int .i64 rt) (.int .i64 s) (.int .i64 t) (.slice p ds.length cap) 32
  clear h3 h3' h6 hkn
  go_enter Tryd.func10, Tryd.ntmps10
  go_wp2_with fail
  go_quiet (fail)
  go_wp2_with fail
  go_quiet (fail)
  go_wp2_with fail
  go_cut [4] from 6 (fun r wx => r = .string (S (b8 k :: (e4 rt.toNat ++ (eNum s ++ eNum t)))) ∧ Below w.heap.size w wx ∧ C5 w.heap.size (.int .i64 k) (.int .i64 rt) (.int .i64 s) (.int .i64 t) (.slice p ds.length cap) wx)
  case first =>
    have hb0 := (Below.refl w.heap.size w).alloc (Nat.le_refl _) (.cells #[.int .i64 k, .int .i64 rt, .int .i64 s, .int .i64 t, .slice p ds.length cap] 32)
    have hb1 := fun a b => below_drewN (below_drewN hb0 a) b
    have hv1 : ∀ a b, C5 w.heap.size (.int .i64 k) (.int .i64 rt) (.int .i64 s) (.int .i64 t) (.slice p ds.length cap) (((w.alloc (.cells #[.int .i64 k, .int .i64 rt, .int .i64 s, .int .i64 t, .slice p ds.length cap] 32)).drewN a).drewN b) := fun _ _ => hv0
    have hz1 : ∀ a b, w.heap.size < (((w.alloc (.cells #[.int .i64 k, .int .i64 rt, .int .i64 s, .int .i64 t, .slice p ds.length cap] 32)).drewN a).drewN b).heap.size := fun _ _ => by simp [World.drewN]
    refine (?_ : ∀ W0 : World, Below w.heap.size w W0 → C5 w.heap.size (.int .i64 k) (.int .i64 rt) (.int .i64 s) (.int .i64 t) (.slice p ds.length cap) W0 → w.heap.size < W0.heap.size → Code.wp _ _ _ _ W0) _ (hb1 _ _) (hv1 _ _) (hz1 _ _)
    clear hb0 hb1 hv1 hz1 hv0
    intro W0 HB HV hzB
    obtain ⟨q0, q1, q2, q3, q4⟩ := HV
    go_region_held (fun w' => w'.cell? ⟨w.heap.size, 0, none⟩ = some (.int .i64 k) ∧ w'.cell? ⟨w.heap.size, 1, none⟩ = some (.int .i64 rt) ∧ w'.cell? ⟨w.heap.size, 2, none⟩ = some (.int .i64 s) ∧ w'.cell? ⟨w.heap.size, 3, none⟩ = some (.int .i64 t) ∧ w'.cell? ⟨w.heap.size, 4, none⟩ = some (.slice p ds.length cap)) (go_keep)
      (first
      | (go_at_call 22; refine (hk4 _).mono ?_; rintro e w2 ⟨rfl, hB2⟩; have hz2 : w.heap.size < w2.heap.size := (by have := hB2.size; first | (simp at this; omega) | omega); (try have g2 : w2.heap[W0.heap.size]? = some (.cells #[.int .u8 k] 5 (0, 0)) := (hB2.block _ (by simp)).trans (by first | exact hnw _ | exact hnd _)); (try have x2 := hcv w2 _ g2); have hc2 := fun o => hB2.cell (p := ⟨w.heap.size, o, none⟩) (by show w.heap.size < _; first | assumption | (simp; done) | (simp; omega)))
      | (go_at_call 21; have _t := tok; refine (hks _).mono ?_; rintro e w3 ⟨rfl, hB3⟩; clear tok; have hz3 : w.heap.size < w3.heap.size := (by have := hB3.size; first | (simp at this; omega) | omega); (try have g3 : w3.heap[W0.heap.size]? = some (.cells #[.int .u8 k] 5 (0, 0)) := (hB3.block _ (by have := ltc g2; first | exact this | (simp; omega))).trans g2); (try have x3 := hcv w3 _ g3); (try have g3b : w3.heap[w2.heap.size]? = some (.cells #[.int .u8 k] 5 (0, 0)) := (hB3.block _ (by simp)).trans (by first | exact hnw _ | exact hnd _)); (try have x3b := hcv w3 _ g3b); have hc3 := fun o => hB3.cell (p := ⟨w.heap.size, o, none⟩) (by show w.heap.size < _; first | assumption | (simp; done) | (simp; omega)))
      | (go_at_call 21; refine (hkt _).mono ?_; rintro e w4 ⟨rfl, hB4⟩; have hz4 : w.heap.size < w4.heap.size := (by have := hB4.size; first | (simp at this; omega) | omega); (try have g4 : w4.heap[W0.heap.size]? = some (.cells #[.int .u8 k] 5 (0, 0)) := (hB4.block _ (by have := ltc g3; first | exact this | (simp; omega))).trans g3); (try have x4 := hcv w4 _ g4); (try have g4b : w4.heap[w2.heap.size]? = some (.cells #[.int .u8 k] 5 (0, 0)) := (hB4.block _ (by have := ltc g3b; first | exact this | (simp; omega))).trans g3b); (try have x4b := hcv w4 _ g4b); (try have g4c : w4.heap[w3.heap.size]? = some (.cells #[.int .u8 k] 5 (0, 0)) := (hB4.block _ (by simp)).trans (by first | exact hnw _ | exact hnd _)); (try have x4c := hcv w4 _ g4c); have hc4 := fun o => hB4.cell (p := ⟨w.heap.size, o, none⟩) (by show w.heap.size < _; first | assumption | (simp; done) | (simp; omega))))
    all_goals
      have hB2' : Below w.heap.size w w2 := by
        first
          | exact HB.drew.trans (hB2.mono (Nat.le_of_lt hzB))
          | exact (HB.alloc (Nat.le_of_lt hzB) _).drew.trans (hB2.mono (by simp; omega))
          | exact (HB.drew.alloc (Nat.le_of_lt hzB) _).trans (hB2.mono (by simp; omega))
      have hB3' : Below w.heap.size w w3 := by
        first
          | exact hB2'.trans (hB3.mono (Nat.le_of_lt hz2))
          | exact hB2'.drew.trans (hB3.mono (Nat.le_of_lt hz2))
          | exact (hB2'.alloc (Nat.le_of_lt hz2) _).trans (hB3.mono (by simp; omega))
          | exact (hB2'.alloc (Nat.le_of_lt hz2) _).drew.trans (hB3.mono (by simp; omega))
      have hB4' : Below w.heap.size w w4 := by
        first
          | exact hB3'.trans (hB4.mono (Nat.le_of_lt hz3))
          | exact hB3'.drew.trans (hB4.mono (Nat.le_of_lt hz3))
          | exact (hB3'.alloc (Nat.le_of_lt hz3) _).trans (hB4.mono (by simp; omega))
          | exact (hB3'.alloc (Nat.le_of_lt hz3) _).drew.trans (hB4.mono (by simp; omega))
      go_wp2_with fail
      go_meet
      case rel =>
        refine ⟨?_, ?_, ?_⟩
        · rw [S_append, S_append, S_append]; simp
        · first | exact hB4' | exact hB4'.drew | exact hB4'.alloc (Nat.le_of_lt hz4) _ | exact (hB4'.alloc (Nat.le_of_lt hz4) _).drew
        · assumption
  case rest =>
    obtain ⟨rfl, hB, hV⟩ := hcut
    clear hv0 hcA hcB hnw hnd hcv c1 c2 c3 hk4 hks hkt
    have hln : (b8 k :: (e4 rt.toNat ++ (eNum s ++ eNum t))).length ≤ 30 := by
      have h3 : (eNum s).length ≤ 10 := eNumF_len 10 s
      have h4 : (eNum t).length ≤ 10 := eNumF_len 10 t
      simp [e4]; omega
    generalize hL0 : b8 k :: (e4 rt.toNat ++ (eNum s ++ eNum t)) = L0 at *
    have hds : ∀ (i : Nat) (hi : i < ds.length), okD k ds[i] = true → 0 ≤ ds[i] ∧ ds[i] < 4294967296 ∧ ¬ ds[i] < 0 ∧ ¬ (2 : Int) ^ k ≤ ds[i] := fun i hi h => by
      have := of_decide_eq_true h
      omega
    have hcc : ∀ W, Below w.heap.size w W → ∀ (i : Nat) (hi : i < ds.length), ∃ a, p = some a ∧ W.cell? (a.add i) = some (.int .i64 ds[i]) := fun W hW i hi => by
      obtain ⟨a, ha, h⟩ := hc i hi
      exact ⟨a, ha, by rw [hW.cell (cell_lt h)]; exact h⟩
    have HL0 : Hid _ := hL0
    clear hc hL0
    go_wp2_with fail
    go_loopw [4, 5] (fun r i wr => ∃ j : Nat, j ≤ ds.length ∧ i = .int .i64 j ∧ r = .string (S (L0 ++ eDs (ds.take j))) ∧ (∀ (i : Nat) (hi : i < ds.length), i < j → okD k ds[i] = true) ∧ Below w.heap.size w wr ∧ C5 w.heap.size (.int .i64 k) (.int .i64 rt) (.int .i64 s) (.int .i64 t) (.slice p ds.length cap) wr) (fun _ i _ => (ds.length - intOf i).toNat)
    case atStart => exact ⟨0, by omega, rfl, by rw [List.take_zero, show eDs [] = [] from rfl, List.append_nil], fun i _ hi => absurd hi (Nat.not_lt_zero i), hB, hV⟩
    case round =>
      obtain ⟨j, hj, rfl, rfl, hok, hb, hq5⟩ := hrel
      have hsl : (S (L0 ++ eDs (ds.take j))).size ≤ 400030 := by
        have := eDs_take ds j
        rw [S_size, List.length_append]; omega
      obtain ⟨q0, q1, q2, q3, q4⟩ := id hq5
      by_cases hjn : j < ds.length
      · obtain ⟨a, rfl, hcell⟩ := hcc wr hb j hjn
        have hsn := eDs_snoc ds j hjn
        cases hd : okD k ds[j] with
        | true =>
          obtain ⟨d0, d1, d2, d3⟩ := hds j hjn hd
          have hkd := fun w => rfour_any ds[j] w d0 d1
          have hok1 : ∀ (i : Nat) (hi : i < ds.length), i < j + 1 → okD k ds[i] = true := fun i hi hij => by
            by_cases e : i = j
            · subst e; exact hd
            · exact hok i hi (by omega)
          have hcat := cat_run (S (L0 ++ eDs (ds.take j))) (S (e4 ds[j].toNat)) (by omega) (by rw [S_size]; simp [e4])
          have hsap := S_append (L0 ++ eDs (ds.take j)) (e4 ds[j].toNat)
          have HN0 : L0 ++ eDs (ds.take j) ++ e4 ds[j].toNat = L0 ++ eDs (ds.take (j + 1)) := by rw [hsn, List.append_assoc]
          have HN : Hid _ := HN0
          clear HN0
          have HP : Hid _ := hsap
          have e0 : decide (ds[j] < 0) = false := by simpa using d2
          have e1 : decide ((2 : Int) ^ k ≤ ds[j]) = false := by simpa using d3
          have HO1 : Hid _ := hok1
          generalize ds[j] = d at *
          clear hds hcc hok hsn hsap hd hok1 HL0
          go_wp2_with fail
          go_quiet (fail)
          go_wp2_with fail
          refine (hkd _).mono ?_
          rintro e w2 ⟨rfl, hb2⟩
          have hqd : ∀ n, C5 w.heap.size (.int .i64 k) (.int .i64 rt) (.int .i64 s) (.int .i64 t) (.slice (some a) ds.length cap) (wr.drewN n) := fun _ => hq5
          have hqn := (hqd _).below hb2 (lt_of_c5 hq5)
          have hbn := (below_drewN hb _).trans (hb2.mono (by simpa [World.drewN] using hb.size))
          clear hb2 hb hq5 q0 q1 q2 q3 q4
          obtain ⟨q0, q1, q2, q3, q4⟩ := id hqn
          go_wp2_with fail
          go_roundw
          case rel => exact ⟨j + 1, by omega, by go_num, by rw [← HN.out, ← HP.out], HO1.out, hbn, hqn⟩
          case measure => simp [intOf]; omega
        | false =>
          have hno : ¬ ∀ d, d ∈ ds → okD k d = true := fun h => by rw [h _ (List.getElem_mem hjn)] at hd; cases hd
          have hx := okD_no k ds[j] hd
          have HNO : Hid _ := hno
          generalize ds[j] = d at hcell hx
          clear hds hcc hok hsn hd HL0 hno
          rcases hx with hx | ⟨hx0, hx⟩
          · have e0 : decide (d < 0) = true := by simpa using hx
            go_wp2_with fail
            go_quiet (fail)
            go_wp2
            go_ret2
            exact ⟨Or.inr ⟨HNO.out, rfl⟩, below_drewN hb _⟩
          · have e0 : decide (d < 0) = false := by simpa using hx0
            have e1 : decide ((2 : Int) ^ k ≤ d) = true := by simpa using hx
            go_wp2_with fail
            go_quiet (fail)
            go_wp2
            go_ret2
            exact ⟨Or.inr ⟨HNO.out, rfl⟩, below_drewN hb _⟩
      · obtain rfl : j = ds.length := by omega
        rw [List.take_length]
        go_wp2
        go_ret2
        refine ⟨Or.inl ⟨fun d hd => ?_, ?_⟩, hb⟩
        · obtain ⟨i, hi, rfl⟩ := List.mem_iff_getElem.1 hd
          exact hok i hi hi
        · have := HL0.out
          subst this
          simp
end Go.Proofs.YtddcbeeldjjmeaaDoor.Tw
