/- EncodeManifest: the program's. -/
import Derived.Test.YtddcbeeldjjmeaaGreatDoorManNo
import Derived.Test.YtddcbeeldjjmeaaGreatDoorEncT
namespace Go.Proofs.YtddcbeeldjjmeaaGreatDoor.Tw
open Go.RowKit Go.Proofs.YtddcbeeldjjmeaaGreatDoor.Pu
set_option linter.unusedVariables false
set_option linter.unusedSimpArgs false

theorem eDs_snoc (ds : List Int) (j : Nat) (h : j < ds.length) : eDs (ds.take (j + 1)) = eDs (ds.take j) ++ e4 ds[j].toNat := by
  have e : ds.take (j + 1) = ds.take j ++ [ds[j]] := by rw [List.take_add_one, List.getElem?_eq_getElem h]; rfl
  rw [e]
  simp only [eDs, List.map_append, List.flatten_append, List.map_cons, List.map_nil, List.flatten_cons, List.flatten_nil, List.append_nil]
theorem eDs_take (ds : List Int) (j : Nat) : (eDs (ds.take j)).length ≤ 4 * ds.length := by
  rw [eDs_len, List.length_take]
  omega
theorem okM_len (m : Mf) (h : okM m = true) : m.digests.length ≤ 100000 := by
  obtain ⟨hw, hr, hs, ht, hn, hd⟩ := (okM_iff _).1 h
  have h1 : (m.total + m.size - 1) / m.size ≤ m.total := by
    refine Int.ediv_le_of_le_mul (by omega) ?_
    have : m.total * m.size = m.total + m.total * (m.size - 1) := by rw [Int.mul_sub, Int.mul_one]; omega
    have h2 : 1 * (m.size - 1) ≤ m.total * (m.size - 1) := Int.mul_le_mul_of_nonneg_right ht.1 (by omega)
    omega
  omega

set_option maxRecDepth 20000 in
set_option maxHeartbeats 2000000 in
theorem wman_ok (m : Mf) (v : Value) (w : World) (hv : IRow w v m.digests) (h : okM m = true) :
    Calls Tryz.prog 97 #[manV m v] w fun e w' => e = .returned (.string (S (b8 m.width.toNat :: (e4 m.root.toNat ++ (eNum m.size.toNat ++ (eNum m.total.toNat ++ eDs m.digests)))))) ∧ Below w.heap.size w w' := by
  have hl := okM_len m h
  obtain ⟨hw, hr, hs, ht, hn, hd⟩ := (okM_iff _).1 h
  obtain ⟨wd, rt, sz, tt, ds⟩ := m
  simp only at hw hr hs ht hn hd hv hl
  obtain ⟨k, rfl⟩ : ∃ k : Nat, wd = k := ⟨wd.toNat, by omega⟩
  obtain ⟨sz, rfl⟩ : ∃ k : Nat, sz = k := ⟨sz.toNat, by omega⟩
  obtain ⟨tt, rfl⟩ : ∃ k : Nat, tt = k := ⟨tt.toNat, by omega⟩
  simp only [Int.toNat_natCast] at hr hd ⊢
  have hp32 := pow_le32 k (by omega)
  obtain ⟨hr1, hr2⟩ := okD_nat k rt hr
  have hrt : 0 ≤ rt ∧ rt < 4294967296 := by omega
  have hds : ∀ (i : Nat) (hi : i < ds.length), 0 ≤ ds[i] ∧ ds[i] < 4294967296 := fun i hi => by
    obtain ⟨a1, a2⟩ := okD_nat k ds[i] (hd _ (List.getElem_mem hi))
    omega
  unfold manV
  simp only
  obtain ⟨p, cap, rfl, hc⟩ := hv
  clear hn hd hr h hr1 hr2 hp32
  have q5 := C5.new w (.int .i64 k) (.int .i64 rt) (.int .i64 sz) (.int .i64 tt) (.slice p ds.length cap) 49
  have hbx := (Below.refl _ w).alloc (Nat.le_refl _) (.cells #[.int .i64 k, .int .i64 rt, .int .i64 sz, .int .i64 tt, .slice p ds.length cap] 49)
  have hO := Own.one (w.heap.size + 1) (w.alloc (.cells #[.int .i64 k, .int .i64 rt, .int .i64 sz, .int .i64 tt, .slice p ds.length cap] 49)) (b8 k) k (by rw [b8_toNat _ (by omega)]) (by simp)
  have hbn := hbx.alloc (by simp) (.cells #[.int .u8 k] 5)
  rw [World.size_alloc] at hO
  obtain ⟨N1, hN1⟩ : ∃ N, N = w.heap.size + 1 := ⟨_, rfl⟩
  obtain ⟨w1, hw1⟩ : ∃ W, W = w.alloc (.cells #[.int .i64 k, .int .i64 rt, .int .i64 sz, .int .i64 tt, .slice p ds.length cap] 49) := ⟨_, rfl⟩
  have hlt : w.heap.size < w1.heap.size := by rw [hw1]; simp
  have hs1 : w1.heap.size = w.heap.size + 1 := by rw [hw1]; simp
  obtain ⟨q0, q1, q2, q3, q4⟩ := q5
  go_enter Tryz.func97, Tryz.ntmps97
  go_wp2_with fail
  rw [← hw1, ← hs1] at hO
  rw [← hw1] at hbx hbn q0 q1 q2 q3 q4
  try rw [← hw1]
  try rw [← hs1]
  refine (addFour_any w1.heap.size _ [b8 k] rt _ hrt.1 hrt.2 (by simp) hO (by simp)).mono ?_
  rintro e w2 ⟨v2, rfl, hO2, hB2⟩
  have hcc := fun o => hB2.cell (p := ⟨w.heap.size, o, none⟩) hlt
  have hby := hbn.trans (hB2.mono (by omega))
  have hz2 : w1.heap.size ≤ w2.heap.size := by have := hB2.size; simp at this; omega
  have hc6 : C5 w.heap.size (.int .i64 k) (.int .i64 rt) (.int .i64 sz) (.int .i64 tt) (.slice p ds.length cap) w2 := by
    refine C5.below (w0 := w1.alloc (.cells #[.int .u8 k] 5)) ?_ hB2 hlt
    exact C5.below (⟨q0, q1, q2, q3, q4⟩ : C5 _ _ _ _ _ _ _) ((Below.refl _ w1).alloc (Nat.le_refl _) _) hlt
  clear hcc hbn hO hB2 q0 q1 q2 q3 q4
  obtain ⟨q0, q1, q2, q3, q4⟩ := hc6
  have tok : True := trivial
  have hl4 : ([b8 k] ++ e4 rt.toNat).length ≤ 5 := by simp [e4]
  have hls : (eNum sz).length ≤ 10 := eNumF_len 10 sz
  have hlt2 : (eNum tt).length ≤ 10 := eNumF_len 10 tt
  have hl5 : ([b8 k] ++ e4 rt.toNat ++ eNum sz).length ≤ 15 := by rw [List.length_append]; omega
  go_wp2_with fail
  go_region_with (first
    | (go_at_call 124; have _t := tok; refine (addNumber_any w1.heap.size _ ([b8 k] ++ e4 rt.toNat) sz _ (by omega) (by omega) (by first | exact hO2 | exact hO2.drew) (by first | exact hz2 | (simp; exact hz2))).mono ?_; rintro e w3 ⟨v3, rfl, hO3, hB3⟩; have hcc3 := fun o => hB3.cell (p := ⟨w.heap.size, o, none⟩) hlt; clear tok)
    | (go_at_call 124; refine (addNumber_any w1.heap.size _ ([b8 k] ++ e4 rt.toNat ++ eNum sz) tt _ (by omega) (by omega) (by first | exact hO3 | exact hO3.drew) (by have := hB3.size; simp at this ⊢; omega)).mono ?_; rintro e w4 ⟨v4, rfl, hO4, hB4⟩; have hcc4 := fun o => hB4.cell (p := ⟨w.heap.size, o, none⟩) hlt))
  all_goals
    have h13 : Below w.heap.size w w3 := by first | exact hby.trans (hB3.mono (by omega)) | exact hby.drew.trans (hB3.mono (by omega))
    have h14 : Below w.heap.size w w4 := by first | exact h13.trans (hB4.mono (by omega)) | exact h13.drew.trans (hB4.mono (by omega))
    have hz3 : w1.heap.size ≤ w3.heap.size := Nat.le_trans hz2 hB3.size
    have hz4 : w1.heap.size ≤ w4.heap.size := Nat.le_trans hz3 hB4.size
    have hc6 : C5 w.heap.size (.int .i64 k) (.int .i64 rt) (.int .i64 sz) (.int .i64 tt) (.slice p ds.length cap) w4 := by
      have h3 : C5 w.heap.size (.int .i64 k) (.int .i64 rt) (.int .i64 sz) (.int .i64 tt) (.slice p ds.length cap) w3 := by
        first
          | exact C5.below (w0 := w2) (⟨q0, q1, q2, q3, q4⟩ : C5 _ _ _ _ _ _ _) hB3 hlt
          | exact C5.below (w0 := w2.drew) (⟨q0, q1, q2, q3, q4⟩ : C5 _ _ _ _ _ _ _) hB3 hlt
      first
        | exact C5.below (w0 := w3) h3 hB4 hlt
        | exact C5.below (w0 := w3.drew) h3 hB4 hlt
    clear hO2 hO3 hB3 hB4 hcc3 hcc4 h13 q0 q1 q2 q3 q4
    obtain ⟨q0, q1, q2, q3, q4⟩ := hc6
    have hl6 : ([b8 k] ++ e4 rt.toNat ++ eNum sz ++ eNum tt).length ≤ 30 := by rw [List.length_append]; omega
    simp only [Exit.then]
    go_wp2_with fail
    go_loopw [3, 5, 23] (fun o _ i wr => ∃ j : Nat, j ≤ ds.length ∧ i = .int .i64 j ∧ Own w1.heap.size wr o ([b8 k] ++ e4 rt.toNat ++ eNum sz ++ eNum tt ++ eDs (ds.take j)) ∧ C5 w.heap.size (.int .i64 k) (.int .i64 rt) (.int .i64 sz) (.int .i64 tt) (.slice p ds.length cap) wr ∧ Below w.heap.size w wr ∧ w1.heap.size ≤ wr.heap.size) (fun _ _ i _ => (ds.length - intOf i).toNat)
    case atStart =>
      refine ⟨0, by omega, rfl, ?_, ⟨q0, q1, q2, q3, q4⟩, by first | exact h14 | exact h14.drew, hz4⟩
      rw [List.take_zero, show eDs [] = [] from rfl, List.append_nil]
      first | exact hO4 | exact hO4.drew
    case round =>
      obtain ⟨j, hj, rfl, hOw, hc5, hb, hzr⟩ := hrel
      have hlen : ([b8 k] ++ e4 rt.toNat ++ eNum sz ++ eNum tt ++ eDs (ds.take j)).length ≤ 500000 := by
        have := eDs_take ds j
        rw [List.length_append]; omega
      by_cases hjn : j < ds.length
      · obtain ⟨a, rfl, hcell⟩ := hc j hjn
        have hcw : wr.cell? (a.add j) = some (.int .i64 ds[j]) := by rw [hb.cell (cell_lt hcell)]; exact hcell
        obtain ⟨a1, a2⟩ := hds j hjn
        have hk7 := addFour_any w1.heap.size _ _ ds[j] wr a1 a2 (by omega) hOw hzr
        rw [List.append_assoc _ _ (e4 _), ← eDs_snoc ds j hjn] at hk7
        have hc5' := hc5
        obtain ⟨q0, q1, q2, q3, q4⟩ := hc5'
        go_wp2_with fail
        refine hk7.mono ?_
        rintro e wn ⟨vn, rfl, hOn, hBn⟩
        have hbn2 : Below w.heap.size w wn := hb.trans (hBn.mono (by omega))
        have hcn := hc5.below hBn hlt
        have hzn : w1.heap.size ≤ wn.heap.size := Nat.le_trans hzr hBn.size
        clear hBn hb hOw hc5 hzr
        go_wp2_with fail
        go_roundw
        case rel => exact ⟨j + 1, by omega, by go_num, hOn, hcn, hbn2, hzn⟩
        case measure => simp [intOf]; omega
      · obtain rfl : j = ds.length := by omega
        rw [List.take_length] at hOw
        have ht1 := hOw.run (by simp)
        go_wp2
        go_ret
        refine ⟨?_, hb⟩
        have e : [b8 k] ++ e4 rt.toNat ++ eNum sz ++ eNum tt ++ eDs ds = b8 k :: (e4 rt.toNat ++ (eNum sz ++ (eNum tt ++ eDs ds))) := by simp
        rw [← e]
        rfl

set_option maxHeartbeats 1000000 in
theorem wencM_ok (m : Mf) (v : Value) (w : World) (hv : IRow w v m.digests) (h : okM m = true) :
    Calls Tryz.prog 63 #[manV m v] w fun e w' => e = .returned (.tuple #[.string (S (b8 m.width.toNat :: (e4 m.root.toNat ++ (eNum m.size.toNat ++ (eNum m.total.toNat ++ eDs m.digests))))), .nilIface]) ∧ Below w.heap.size w w' := by
  have hk0 := fun w hv => checkM_ok m v w hv h
  have hk1 := fun w hv => wman_ok m v w hv h
  have hnn := neq_nil
  have hv0 := fun o => hv.to ((Below.refl _ w).alloc (Nat.le_refl _) o)
  generalize b8 m.width.toNat :: (e4 m.root.toNat ++ (eNum m.size.toNat ++ (eNum m.total.toNat ++ eDs m.digests))) = out at hk1 ⊢
  unfold manV at hk0 hk1 ⊢
  have hq5 := C5.new w (.int .i64 m.width) (.int .i64 m.root) (.int .i64 m.size) (.int .i64 m.total) v 49
  go_enter Tryz.func63, Tryz.ntmps63
  go_wp2_with fail
  refine (hk0 _ (hv0 _)).mono ?_
  rintro e w1 ⟨rfl, hb1⟩
  obtain ⟨q0, q1, q2, q3, q4⟩ := hq5.below hb1 (by simp)
  have hbx := ((Below.refl _ w).alloc (Nat.le_refl _) _).trans (hb1.mono (by simp))
  have hv1 := hv.to hbx
  clear hb1 hk0 hv0 hq5
  go_wp2_with fail
  refine (hk1 _ hv1).mono ?_
  rintro e w2 ⟨rfl, hb2⟩
  have hby := hbx.trans (hb2.mono hbx.size)
  clear hb2 hbx hk1
  go_wp2
  go_ret2
  exact ⟨rfl, hby⟩

set_option maxHeartbeats 1000000 in
theorem wencM_no (A : Nat → Addr) (B : Nat) (m : Mf) (v : Value) (w : World) (hS : Sents A B w) (hT : Tab w) (hv : IRow w v m.digests) (h : okM m = false) :
    Calls Tryz.prog 63 #[manV m v] w fun e w' => ∃ t x, e = .returned (.tuple #[.string (S []), .iface t x]) ∧ NoB A (.iface t x) ∧ Below w.heap.size w w' := by
  have hk : ∀ o : Obj, Calls Tryz.prog 108 #[manV m v] (w.alloc o) fun e w' => ∃ t x, e = .returned (.iface t x) ∧ NoB A (.iface t x) ∧ Below (w.alloc o).heap.size (w.alloc o) w' := fun o =>
    checkM_no A B m v (w.alloc o) (hS.to ((Below.refl _ w).alloc hS.size _)) (hT.to ((Below.refl w.heap.size w).alloc (Nat.le_refl _) _) hT.lt) (hv.to ((Below.refl _ w).alloc (Nat.le_refl _) _)) h
  have hhd := neq_held
  clear h hv hT
  unfold manV at hk ⊢
  go_enter Tryz.func63, Tryz.ntmps63
  go_wp2_with fail
  refine (hk _).mono ?_
  rintro e w1 ⟨t, x, rfl, hno, hb1⟩
  have hbx := ((Below.refl _ w).alloc (Nat.le_refl _) _).trans (hb1.mono (by simp))
  clear hb1 hk
  go_wp2_with fail
  refine (at_nob (A := A) _ _ _ hno).mono ?_
  rintro e w' ⟨t', x', rfl, hno', rfl⟩
  go_wp2
  go_ret2
  exact ⟨_, _, rfl, hno', hbx⟩

/-- What is answered when a manifest is to be written. -/
def encMB (m : Mf) : List UInt8 := match encM m with | some b => b | none => []
def encME (m : Mf) : Int := match encM m with | some _ => 0 | none => 3

set_option maxHeartbeats 400000 in
theorem tencM_ok (m : Mf) (v : Value) (b : List UInt8) (w : World) (hv : IRow w v m.digests) (h : encM m = some b) :
    Calls Tryz.prog 24 #[manV m v] w fun e w' => e = .returned (.tuple #[.string (S b), .int .i64 0]) ∧ Below w.heap.size w w' := by
  have hk : ∀ o, Calls Tryz.prog 63 #[manV m v] (w.alloc o) fun e w' => e = .returned (.tuple #[.string (S b), .nilIface]) ∧ Below (w.alloc o).heap.size (w.alloc o) w' := fun o => by
    unfold encM at h
    by_cases hk : okM m = true
    · rw [if_pos hk] at h; cases h
      exact wencM_ok m v _ (hv.to ((Below.refl _ w).alloc (Nat.le_refl _) _)) hk
    · rw [if_neg hk] at h; cases h
  clear h hv
  unfold manV at hk ⊢
  go_enter Tryz.func24, Tryz.ntmps24
  go_wp2_with fail
  refine (hk _).mono ?_
  rintro e w1 ⟨rfl, hb1⟩
  have hbx := ((Below.refl _ w).alloc (Nat.le_refl _) _).trans (hb1.mono (by simp))
  clear hb1 hk
  go_wp2_with fail
  refine (errno_nil _).mono ?_
  rintro e w' ⟨rfl, rfl⟩
  go_wp2
  go_ret2
  exact ⟨rfl, hbx⟩

set_option maxHeartbeats 400000 in
theorem tencM_no (A : Nat → Addr) (B : Nat) (m : Mf) (v : Value) (w : World) (hS : Sents A B w) (hT : Tab w) (hv : IRow w v m.digests) (h : encM m = none) :
    Calls Tryz.prog 24 #[manV m v] w fun e w' => e = .returned (.tuple #[.string (S []), .int .i64 3]) ∧ Below w.heap.size w w' := by
  have hk : ∀ o, Calls Tryz.prog 63 #[manV m v] (w.alloc o) fun e w' => ∃ t x, e = .returned (.tuple #[.string (S []), .iface t x]) ∧ NoB A (.iface t x) ∧ Below (w.alloc o).heap.size (w.alloc o) w' := fun o => by
    unfold encM at h
    cases hk : okM m with
    | true => rw [if_pos hk] at h; cases h
    | false => exact wencM_no A B m v _ (hS.to ((Below.refl _ w).alloc hS.size _)) (hT.to ((Below.refl w.heap.size w).alloc (Nat.le_refl _) _) hT.lt) (hv.to ((Below.refl _ w).alloc (Nat.le_refl _) _)) hk
  have hBs := hS.size
  clear h hv hT
  unfold manV at hk ⊢
  go_enter Tryz.func24, Tryz.ntmps24
  go_wp2_with fail
  refine (hk _).mono ?_
  rintro e w1 ⟨t, x, rfl, hno, hb1⟩
  have hbx := ((Below.refl _ w).alloc (Nat.le_refl _) _).trans (hb1.mono (by simp))
  have hS1 := hS.to (hbx.mono hBs)
  clear hb1 hk
  go_wp2_with fail
  refine (errno_nob A B _ _ hS1 hno).mono ?_
  rintro e w2 ⟨rfl, hb2⟩
  have hb3 := hbx.trans (hb2.mono (by have := hbx.size; omega))
  clear hb2 hbx
  go_wp2
  go_ret2
  exact ⟨rfl, hb3⟩

theorem tencM_any (A : Nat → Addr) (B : Nat) (m : Mf) (v : Value) (w : World) (hS : Sents A B w) (hT : Tab w) (hv : IRow w v m.digests) :
    Calls Tryz.prog 24 #[manV m v] w fun e w' => e = .returned (.tuple #[.string (S (encMB m)), .int .i64 (encME m)]) ∧ Below w.heap.size w w' := by
  unfold encMB encME
  cases h : encM m with
  | some b => exact tencM_ok m v b w hv h
  | none => exact tencM_no A B m v w hS hT hv h
end Go.Proofs.YtddcbeeldjjmeaaGreatDoor.Tw
