/- The document's answer: EncodeNode, where the node has bytes. -/
import Derived.Test.YtddcbeeldjjmeaaGreatDoorRefN
import Derived.Deep.RegionHeld3
namespace Go.Proofs.YtddcbeeldjjmeaaGreatDoor.Tw
open Go.RowKit Go.Proofs.YtddcbeeldjjmeaaGreatDoor.Pu
set_option linter.unusedVariables false
set_option linter.unusedSimpArgs false

/-- Two short texts, one behind the other. -/
theorem cat_run (a b : ByteArray) (h1 : a.size ≤ 1000000) (h2 : b.size ≤ 1000000) : ∀ w : World, (Op.stringOp .add a b).run Tryz.prog w = .ok (.string (a ++ b)) w := fun w => run_string_add w a b (by omega) (by omega)

set_option maxRecDepth 20000 in
set_option maxHeartbeats 400000 in
theorem renc_leaf (p v : List UInt8) (w : World) (hp : isPb p = true) (hv : v.length ≤ 20) :
    Calls Tryz.prog 45 #[nodeV ⟨0, p, v, 0, 0⟩] w fun e w' => e = .returned (.tuple #[.string (S (0 :: (ePath p ++ eVal v))), .int .i64 0]) ∧ Below w.heap.size w w' := by
  have hP := (isPb_iff p).1 hp
  have h37 := hP.2
  have hk1 := fun w => risPath_any p w (by omega)
  rw [hp] at hk1
  have hsv := S_size v
  have hk2 := fun w => rpath_any p w h37
  have hk3 := fun w => rnumber_any v.length w (by omega)
  have hpl := ePath_len p hP
  have hel : (eNum v.length).length ≤ 10 := eNumF_len 10 v.length
  have hz0 : ({ data := #[0] } : ByteArray) = S [0] := rfl
  have hs00 : (S [0]).size = 1 := rfl
  have hs1 := S_size (ePath p)
  have hs2 := S_size (eNum v.length)
  have hs3 := S_size ([0] ++ ePath p)
  have hs4 := S_size ([0] ++ ePath p ++ eNum v.length)
  have k1 := cat_run (S [0]) (S (ePath p)) (by omega) (by omega)
  have k1' := cat_run ⟨#[0]⟩ (S (ePath p)) (by show 1 ≤ _; omega) (by omega)
  have k2 := cat_run (S [0] ++ S (ePath p)) (S (eNum v.length)) (by rw [ByteArray.size_append]; omega) (by omega)
  have k3 := cat_run (S [0] ++ S (ePath p) ++ S (eNum v.length)) (S v) (by rw [ByteArray.size_append, ByteArray.size_append]; omega) (by omega)
  unfold nodeV
  go_enter Tryz.func45, Tryz.ntmps45
  go_wp2_with (first | (go_at_call 47; refine (hk1 _).mono ?_; rintro e w' ⟨rfl, rfl⟩) | (go_at_call 48; refine (ris32_any _ _).mono ?_; rintro e w' ⟨rfl, rfl⟩))
  go_region_held3 (fun w' => w'.cell? ⟨w.heap.size, 1, none⟩ = some (.string (S p)) ∧ w'.cell? ⟨w.heap.size, 2, none⟩ = some (.string (S v))) (go_keep)
    (first
    | (go_at_call 49; refine (hk2 _).mono ?_; rintro e w2 ⟨rfl, hB2⟩; have hz2 : w.heap.size < w2.heap.size := (by have := hB2.size; first | (simp at this; omega) | omega); have hc2 := fun o => hB2.cell (p := ⟨w.heap.size, o, none⟩) (by show w.heap.size < _; first | assumption | (simp; done) | (simp; omega)))
    | (go_at_call 46; refine (hk3 _).mono ?_; rintro e w3 ⟨rfl, hB3⟩; have hz3 : w.heap.size < w3.heap.size := (by have := hB3.size; first | (simp at this; omega) | omega); have hc3 := fun o => hB3.cell (p := ⟨w.heap.size, o, none⟩) (by show w.heap.size < _; first | assumption | (simp; done) | (simp; omega))))
  have hb0 : Below w.heap.size w (w.alloc (.cells #[.int .i64 0, .string (S p), .string (S v), .int .i64 0, .int .i64 0] 23)) := (Below.refl _ w).alloc (Nat.le_refl _) _
  have h12 : Below w.heap.size w w2 := by
    first
      | exact hb0.trans (hB2.mono (by simp))
      | exact hb0.drew.trans (hB2.mono (by simp))
  have h13 : Below w.heap.size w w3 := by
    first
      | exact h12.trans (hB3.mono (by omega))
      | exact h12.drew.trans (hB3.mono (by omega))
  clear hB2 hB3 h12 hb0
  simp only [Exit.then, Exit.inBlock]
  repeat go_step
  go_ret2
  refine ⟨?_, by first | exact h13 | exact h13.drew⟩
  have e : S [0] ++ S (ePath p) ++ S (eNum v.length) ++ S v = S (0 :: (ePath p ++ eVal v)) := by
    rw [S_append, S_append, S_append]
    simp [eVal]
  rw [← e]
  rfl

set_option maxRecDepth 20000 in
set_option maxHeartbeats 400000 in
theorem renc_branch (p : List UInt8) (x y : Int) (w : World) (hp : isPb p = true) (hx : is32 x = true) (hy : is32 y = true) :
    Calls Tryz.prog 45 #[nodeV ⟨1, p, [], x, y⟩] w fun e w' => e = .returned (.tuple #[.string (S (1 :: (ePath p ++ (e4 x.toNat ++ e4 y.toNat)))), .int .i64 0]) ∧ Below w.heap.size w w' := by
  have hP := (isPb_iff p).1 hp
  have h37 := hP.2
  have hk1 := fun w => risPath_any p w (by omega)
  rw [hp] at hk1
  have hk4 := fun w => ris32_any x w
  have hk5 := fun w => ris32_any y w
  rw [hx] at hk4
  rw [hy] at hk5
  have hx2 : 0 ≤ x ∧ x < 4294967296 := by simpa [is32] using hx
  have hy2 : 0 ≤ y ∧ y < 4294967296 := by simpa [is32] using hy
  clear hx hy
  have hse : (S []).toList = [] := by rw [Lib.toList_data, S_list]
  have hk2 := fun w => rpath_any p w h37
  have hk6 := fun w => rfour_any x w hx2.1 hx2.2
  have hk7 := fun w => rfour_any y w hy2.1 hy2.2
  have hpl := ePath_len p hP
  have hz0 : ({ data := #[1] } : ByteArray) = S [1] := rfl
  have hs00 : (S [1]).size = 1 := rfl
  have hs1 := S_size (ePath p)
  have hs2 : (S (e4 x.toNat)).size = 4 := S_size _
  have hs3 : (S (e4 y.toNat)).size = 4 := S_size _
  have k1 := cat_run (S [1]) (S (ePath p)) (by omega) (by omega)
  have k1' := cat_run ⟨#[1]⟩ (S (ePath p)) (by show 1 ≤ _; omega) (by omega)
  have k2 := cat_run (S [1] ++ S (ePath p)) (S (e4 x.toNat)) (by rw [ByteArray.size_append]; omega) (by omega)
  have k3 := cat_run (S [1] ++ S (ePath p) ++ S (e4 x.toNat)) (S (e4 y.toNat)) (by rw [ByteArray.size_append, ByteArray.size_append]; omega) (by omega)
  have tok : True := trivial
  unfold nodeV
  go_enter Tryz.func45, Tryz.ntmps45
  go_wp2_with fail
  refine (hk1 _).mono ?_
  rintro e w' ⟨rfl, rfl⟩
  go_wp2_with fail
  refine (hk4 _).mono ?_
  rintro e w' ⟨rfl, rfl⟩
  go_wp2_with fail
  refine (hk5 _).mono ?_
  rintro e w' ⟨rfl, rfl⟩
  clear hk1 hk4 hk5
  go_wp2_with fail
  go_region_held3 (fun w' => w'.cell? ⟨w.heap.size, 1, none⟩ = some (.string (S p)) ∧ w'.cell? ⟨w.heap.size, 3, none⟩ = some (.int .i64 x) ∧ w'.cell? ⟨w.heap.size, 4, none⟩ = some (.int .i64 y)) (go_keep)
    (first
    | (go_at_call 49; refine (hk2 _).mono ?_; rintro e w2 ⟨rfl, hB2⟩; have hz2 : w.heap.size < w2.heap.size := (by have := hB2.size; first | (simp at this; omega) | omega); have hc2 := fun o => hB2.cell (p := ⟨w.heap.size, o, none⟩) (by show w.heap.size < _; first | assumption | (simp; done) | (simp; omega)))
    | (go_at_call 50; have _t := tok; refine (hk6 _).mono ?_; rintro e w3 ⟨rfl, hB3⟩; clear tok; have hz3 : w.heap.size < w3.heap.size := (by have := hB3.size; first | (simp at this; omega) | omega); have hc3 := fun o => hB3.cell (p := ⟨w.heap.size, o, none⟩) (by show w.heap.size < _; first | assumption | (simp; done) | (simp; omega)))
    | (go_at_call 50; refine (hk7 _).mono ?_; rintro e w4 ⟨rfl, hB4⟩; have hz4 : w.heap.size < w4.heap.size := (by have := hB4.size; first | (simp at this; omega) | omega); have hc4 := fun o => hB4.cell (p := ⟨w.heap.size, o, none⟩) (by show w.heap.size < _; first | assumption | (simp; done) | (simp; omega))))
  have hb0 : Below w.heap.size w (w.alloc (.cells #[.int .i64 1, .string (S p), .string (S []), .int .i64 x, .int .i64 y] 23)) := (Below.refl _ w).alloc (Nat.le_refl _) _
  have h12 : Below w.heap.size w w2 := by
    first
      | exact hb0.trans (hB2.mono (by simp))
      | exact hb0.drew.trans (hB2.mono (by simp))
  have h13 : Below w.heap.size w w3 := by
    first
      | exact h12.trans (hB3.mono (by omega))
      | exact h12.drew.trans (hB3.mono (by omega))
  have h14 : Below w.heap.size w w4 := by
    first
      | exact h13.trans (hB4.mono (by omega))
      | exact h13.drew.trans (hB4.mono (by omega))
  clear hB2 hB3 hB4 h12 h13 hb0
  simp only [Exit.then, Exit.inBlock]
  repeat go_step
  go_ret2
  refine ⟨?_, by first | exact h14 | exact h14.drew⟩
  have e : S [1] ++ S (ePath p) ++ S (e4 x.toNat) ++ S (e4 y.toNat) = S (1 :: (ePath p ++ (e4 x.toNat ++ e4 y.toNat))) := by
    rw [S_append, S_append, S_append]
    simp
  rw [← e]
  rfl

/-- What EncodeNode answers, by the document. -/
theorem renc_ok (n : Nd) (b : List UInt8) (w : World) (h : encN n = some b) :
    Calls Tryz.prog 45 #[nodeV n] w fun e w' => e = .returned (.tuple #[.string (S b), .int .i64 0]) ∧ Below w.heap.size w w' := by
  unfold encN at h
  by_cases he : n = empty
  · rw [if_pos he] at h; cases h; subst he; exact renc_empty w
  · rw [if_neg he] at h
    by_cases h1 : n.kind = 0 ∧ isPb n.path = true ∧ n.value.length ≤ 20 ∧ n.left = 0 ∧ n.right = 0
    · rw [if_pos h1] at h; cases h
      obtain ⟨k, p, v, x, y⟩ := n
      simp only at h1
      obtain ⟨rfl, hp, hv, rfl, rfl⟩ := h1
      exact renc_leaf p v w hp hv
    · rw [if_neg h1] at h
      by_cases h2 : n.kind = 1 ∧ isPb n.path = true ∧ n.value = [] ∧ is32 n.left = true ∧ is32 n.right = true
      · rw [if_pos h2] at h; cases h
        obtain ⟨k, p, v, x, y⟩ := n
        simp only at h2
        obtain ⟨rfl, hp, rfl, hx, hy⟩ := h2
        exact renc_branch p x y w hp hx hy
      · rw [if_neg h2] at h; cases h

theorem renc_no (n : Nd) (w : World) (h : encN n = none) (hpl : n.path.length ≤ 9223372036854775807) :
    Calls Tryz.prog 45 #[nodeV n] w fun e w' => e = .returned (.tuple #[.string (S []), .int .i64 3]) ∧ Below w.heap.size w w' := by
  obtain ⟨k, p, v, x, y⟩ := n
  simp only at hpl
  unfold encN at h
  by_cases he : (⟨k, p, v, x, y⟩ : Nd) = empty
  · rw [if_pos he] at h; cases h
  · rw [if_neg he] at h
    by_cases h0 : k = 0
    · subst h0
      cases hp : isPb p with
      | false => exact renc_leaf_p p v x y hpl hp w
      | true =>
        by_cases hv : v.length ≤ 20
        · by_cases hx : x = 0
          · subst hx
            by_cases hy : y = 0
            · subst hy
              rw [if_pos ⟨rfl, hp, hv, rfl, rfl⟩] at h; cases h
            · exact renc_leaf_y p v y hpl hp hv hy w
          · exact renc_leaf_x p v x y hpl hp hv hx w
        · exact renc_leaf_v p v x y hpl hp (by omega) w
    · by_cases h1 : k = 1
      · subst h1
        rw [if_neg (fun h => h0 h.1)] at h
        cases hp : isPb p with
        | false => exact renc_branch_p p v x y hpl hp w
        | true =>
          by_cases hv : v = []
          · subst hv
            refine renc_branch_xy p x y hpl hp (fun hxy => ?_) w
            rw [if_pos ⟨rfl, hp, rfl, hxy.1, hxy.2⟩] at h; cases h
          · exact renc_branch_v p v x y hpl hp (S_ne v hv) w
      · by_cases h2 : k = 2
        · subst h2
          by_cases hp : p = []
          · subst hp
            by_cases hv : v = []
            · subst hv
              by_cases hx : x = 0
              · subst hx
                by_cases hy : y = 0
                · subst hy; exact absurd rfl he
                · exact renc_empty_y y hy w
              · exact renc_empty_x x y hx w
            · exact renc_empty_v v x y (S_ne v hv) w
          · exact renc_empty_p p v x y hpl (S_ne p hp) w
        · exact renc_kind k p v x y hpl h0 h1 h2 w
end Go.Proofs.YtddcbeeldjjmeaaGreatDoor.Tw
