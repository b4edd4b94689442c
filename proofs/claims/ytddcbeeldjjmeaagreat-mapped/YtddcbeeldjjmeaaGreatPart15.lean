/- A TREE WITH A KEY LESS, made alone. -/
import Derived.Test.YtddcbeeldjjmeaaGreatPart14
import Derived.Lib.Strings
import Derived.Test.YtddcbeeldjjmeaaGreatPart12
import Derived.Laws.BitsLemmas
import Derived.Test.YtddcbeeldjjmeaaGreatPart10
import Derived.Lib.MinMax
import Derived.Deep.AppendLies
import Derived.Deep.RegionHeld3
namespace Go.Proofs.YtddcbeeldjjmeaaGreat
open Go Go.RowKit Go.Nest Go.Tm
set_option linter.unusedVariables false
set_option linter.unusedSimpArgs false
theorem moved_cells2 {A : Prop} {b : Nat} {kind : Int} {p v : ByteArray} {l r : Option Addr} (q : ByteArray) (w : World) (h : A /\ w.cell? ⟨b, 0, none⟩ = some (.int .i64 kind) /\ w.cell? ⟨b, 1, none⟩ = some (.string p) /\ w.cell? ⟨b, 2, none⟩ = some (.string v) /\ w.cell? ⟨b, 3, none⟩ = some (.pointer l) /\ w.cell? ⟨b, 4, none⟩ = some (.pointer r)) :
   Calls Tryz.prog 62 #[.pointer (some ⟨b, 0, none⟩), .string q] w fun e w' => ∃ b', e = .returned (.pointer (ptr b')) /\ NodeAt ndT w' b' kind q v l r 0 false /\ Below w.heap.size w w' := moved_cells q w h.2
set_option maxRecDepth 20000 in
set_option maxHeartbeats 8000000 in
theorem without_leaf {w : World} {b : Nat} {P0 V0 S0 : ByteArray} {l r : Option Addr} {d : Int} {sl : Bool} (hN : NodeAt ndT w b 0 P0 V0 l r d sl) :
   Calls Tryz.prog 49 #[.pointer (some ⟨b, 0, none⟩), .string S0] w fun e w' => ∃ b', e = .returned (.pointer (ptr b')) /\ NodeAt ndT w' b' 2 noText noText none none 0 false /\ Below w.heap.size w w' := by
 obtain ⟨h0, h1, h2, h3, h4, h5⟩ := NodeAt.cells hN
 have hb := NodeAt.lt hN
 go_enter Tryz.func49, Tryz.ntmps49
 go_wp2_with (go_at_call 43; refine (empty_any _).mono ?_; rintro e w3 ⟨b1, rfl, hN1, hB1⟩)
 go_ret
 exact ⟨_, rfl, hN1, hB1⟩
set_option maxRecDepth 20000 in
set_option maxHeartbeats 8000000 in
theorem without_down {w : World} {b : Nat} {P0 S0 R0 Y0 : ByteArray} {bl br : Nat} {d : Int} {sl s : Bool} {m a : Nat} {k : Int} {Q : World -> Nat -> Prop} (hN : NodeAt ndT w b 1 P0 noText (ptr bl) (ptr br) d sl) (hk : ¬ k = 2) (hm : m <= 1000)
   (hsz : S0.size = m + (a + 1)) (hsz2 : P0.size = m) (hsz3 : R0.size = a + 1)
   (hsd : ∀ w, Calls Tryz.prog 61 #[.string R0] w fun e w' => e = .returned (.int .i64 (bit s)) /\ ∃ n, w' = w.drewN n)
   (e1 : S0.extract m (m + (a + 1)) = R0) (e3 : R0.extract 1 (a + 1) = Y0)
   (hrec : ∀ n, Calls Tryz.prog 49 #[.pointer (ptr (pick s bl br)), .string Y0] (w.drewN n) fun e w' => ∃ b', e = .returned (.pointer (ptr b')) /\ w'.cell? ⟨b', 0, none⟩ = some (.int .i64 k) /\ Q w' b' /\ Below (w.drewN n).heap.size (w.drewN n) w') :
   Calls Tryz.prog 49 #[.pointer (some ⟨b, 0, none⟩), .string S0] w fun e w' => ∃ b' c w2, e = .returned (.pointer (ptr b')) /\ NodeAt ndT w' b' 1 P0 noText (ptr (pick s c (pick s br bl))) (ptr (pick s (pick s br bl) c)) 0 false /\ Q w2 c /\ Below w2.heap.size w2 w' /\ Below w.heap.size w w' := by
 obtain ⟨h0, h1, h2, h3, h4, h5⟩ := NodeAt.cells hN
 have hb := NodeAt.lt hN
 have i0 : (0 : Int) <= (m : Int) := by omega
 have i1 : (m : Int) <= (S0.size : Int) := by omega
 have i2 : (m : Int) <= ((m + (a + 1) : Nat) : Int) := by omega
 have i3 : (m : Int) <= (m : Int) + ((a : Int) + 1) := by omega
 have j1 : (1 : Int) <= (R0.size : Int) := by omega
 have j2 : (1 : Int) <= ((a + 1 : Nat) : Int) := by omega
 have j3 : (1 : Int) <= (a : Int) + 1 := by omega
 have u1 : IntKind.i64.wrap 1 = 1 := rfl
 have u0 : IntKind.i64.wrap 0 = 0 := rfl
 have hk2 : decide (k = 2) = false := decide_eq_false hk
 have hk1 : (k == 2) = false := by simpa using hk
 cases s with
 | true =>
   simp only [bit, if_true] at hsd
   simp only [pick, ptr, if_true] at hrec h3 h4 ⊢
   go_enter Tryz.func49, Tryz.ntmps49
   go_wp2_with (go_at_call 61; refine (hsd _).mono ?_; rintro e w' ⟨rfl, n2, rfl⟩)
   go_region_held3 (fun w' => w'.cell? ⟨b, 0, none⟩ = some (.int .i64 1) /\ w'.cell? ⟨b, 1, none⟩ = some (.string P0) /\ w'.cell? ⟨b, 2, none⟩ = some (.string noText) /\ w'.cell? ⟨b, 3, none⟩ = some (.pointer (some ⟨bl, 0, none⟩)) /\ w'.cell? ⟨b, 4, none⟩ = some (.pointer (some ⟨br, 0, none⟩))) (go_keep)
     (first | (go_at_call 49; refine (hrec _).mono ?_; rintro e w3 ⟨b1, rfl, hK1, hN1, hB1⟩; have khB10 := hB1.cell (p := ⟨b, 0, none⟩) (by first | exact cell_lt (by assumption) | exact conj_lt (by assumption)); have khB11 := hB1.cell (p := ⟨b, 1, none⟩) (by first | exact cell_lt (by assumption) | exact conj_lt (by assumption)); have khB12 := hB1.cell (p := ⟨b, 2, none⟩) (by first | exact cell_lt (by assumption) | exact conj_lt (by assumption)); have khB13 := hB1.cell (p := ⟨b, 3, none⟩) (by first | exact cell_lt (by assumption) | exact conj_lt (by assumption)); have khB14 := hB1.cell (p := ⟨b, 4, none⟩) (by first | exact cell_lt (by assumption) | exact conj_lt (by assumption))))
   go_wp2_with (go_at_call 60; refine (branch_any _ true _ _ _).mono ?_; rintro e w5 ⟨b3, rfl, hN3, hB3⟩)
   go_ret
   exact ⟨b3, b1, w3, rfl, hN3, hN1, hB3, below_mono (below_mono (below_drewN _ _ _) hB1) hB3⟩
 | false =>
   simp only [bit, Bool.false_eq_true, if_false] at hsd
   simp only [pick, ptr, Bool.false_eq_true, if_false] at hrec h3 h4 ⊢
   go_enter Tryz.func49, Tryz.ntmps49
   go_wp2_with (go_at_call 61; refine (hsd _).mono ?_; rintro e w' ⟨rfl, n2, rfl⟩)
   go_region_held3 (fun w' => w'.cell? ⟨b, 0, none⟩ = some (.int .i64 1) /\ w'.cell? ⟨b, 1, none⟩ = some (.string P0) /\ w'.cell? ⟨b, 2, none⟩ = some (.string noText) /\ w'.cell? ⟨b, 3, none⟩ = some (.pointer (some ⟨bl, 0, none⟩)) /\ w'.cell? ⟨b, 4, none⟩ = some (.pointer (some ⟨br, 0, none⟩))) (go_keep)
     (first | (go_at_call 49; refine (hrec _).mono ?_; rintro e w3 ⟨b1, rfl, hK1, hN1, hB1⟩; have khB10 := hB1.cell (p := ⟨b, 0, none⟩) (by first | exact cell_lt (by assumption) | exact conj_lt (by assumption)); have khB11 := hB1.cell (p := ⟨b, 1, none⟩) (by first | exact cell_lt (by assumption) | exact conj_lt (by assumption)); have khB12 := hB1.cell (p := ⟨b, 2, none⟩) (by first | exact cell_lt (by assumption) | exact conj_lt (by assumption)); have khB13 := hB1.cell (p := ⟨b, 3, none⟩) (by first | exact cell_lt (by assumption) | exact conj_lt (by assumption)); have khB14 := hB1.cell (p := ⟨b, 4, none⟩) (by first | exact cell_lt (by assumption) | exact conj_lt (by assumption))))
   go_wp2_with (go_at_call 60; refine (branch_any _ false _ _ _).mono ?_; rintro e w5 ⟨b3, rfl, hN3, hB3⟩)
   go_ret
   exact ⟨b3, b1, w3, rfl, hN3, hN1, hB3, below_mono (below_mono (below_drewN _ _ _) hB1) hB3⟩
set_option maxRecDepth 20000 in
set_option maxHeartbeats 8000000 in
theorem without_gone {w : World} {b : Nat} {P0 S0 R0 Y0 : ByteArray} {bl br : Nat} {d : Int} {sl s : Bool} {m a : Nat} {k2 d2 : Int} {P2 V2 SG : ByteArray} {l2 r2 : Option Addr} {s2 : Bool} {Q : World -> Nat -> Prop} (hN : NodeAt ndT w b 1 P0 noText (ptr bl) (ptr br) d sl) (hP2 : P2.size <= 1000) (g0 : SG.size = 1) (hsg : ∀ w, Calls Tryz.prog 52 #[.int .i64 (bit (!s))] w fun e w' => e = .returned (.string SG) /\ w' = w) (hO : NodeAt ndT w (pick s br bl) k2 P2 V2 l2 r2 d2 s2) (hm : m <= 1000)
   (hsz : S0.size = m + (a + 1)) (hsz2 : P0.size = m) (hsz3 : R0.size = a + 1)
   (hsd : ∀ w, Calls Tryz.prog 61 #[.string R0] w fun e w' => e = .returned (.int .i64 (bit s)) /\ ∃ n, w' = w.drewN n)
   (e1 : S0.extract m (m + (a + 1)) = R0) (e3 : R0.extract 1 (a + 1) = Y0)
   (hrec : ∀ n, Calls Tryz.prog 49 #[.pointer (ptr (pick s bl br)), .string Y0] (w.drewN n) fun e w' => ∃ b', e = .returned (.pointer (ptr b')) /\ w'.cell? ⟨b', 0, none⟩ = some (.int .i64 2) /\ Q w' b' /\ Below (w.drewN n).heap.size (w.drewN n) w') :
   Calls Tryz.prog 49 #[.pointer (some ⟨b, 0, none⟩), .string S0] w fun e w' => ∃ b', e = .returned (.pointer (ptr b')) /\ NodeAt ndT w' b' k2 (P0 ++ SG ++ P2) V2 l2 r2 0 false /\ Below w.heap.size w w' := by
 obtain ⟨h0, h1, h2, h3, h4, h5⟩ := NodeAt.cells hN
 have hb := NodeAt.lt hN
 have i0 : (0 : Int) <= (m : Int) := by omega
 have i1 : (m : Int) <= (S0.size : Int) := by omega
 have i2 : (m : Int) <= ((m + (a + 1) : Nat) : Int) := by omega
 have i3 : (m : Int) <= (m : Int) + ((a : Int) + 1) := by omega
 have j1 : (1 : Int) <= (R0.size : Int) := by omega
 have j2 : (1 : Int) <= ((a + 1 : Nat) : Int) := by omega
 have j3 : (1 : Int) <= (a : Int) + 1 := by omega
 have u1 : IntKind.i64.wrap 1 = 1 := rfl
 have u0 : IntKind.i64.wrap 0 = 0 := rfl
 obtain ⟨o0, o1, o2, o3, o4, o5⟩ := NodeAt.cells hO
 cases s with
 | true =>
   simp only [bit, if_true] at hsd
   simp only [pick, ptr, if_true] at hrec h3 h4 o0 o1 o2 o3 o4 ⊢
   have hx : NodeC w bl k2 P2 V2 l2 r2 := ⟨o0, o1, o2, o3, o4⟩
   have hol : bl < w.heap.size := cell_lt o0
   go_enter Tryz.func49, Tryz.ntmps49
   go_wp2_with (go_at_call 61; refine (hsd _).mono ?_; rintro e w' ⟨rfl, n2, rfl⟩)
   go_region_held3 (fun w' => w'.cell? ⟨b, 0, none⟩ = some (.int .i64 1) /\ w'.cell? ⟨b, 1, none⟩ = some (.string P0) /\ w'.cell? ⟨b, 2, none⟩ = some (.string noText) /\ w'.cell? ⟨b, 3, none⟩ = some (.pointer (some ⟨bl, 0, none⟩)) /\ w'.cell? ⟨b, 4, none⟩ = some (.pointer (some ⟨br, 0, none⟩))) (go_keep)
     (first | (go_at_call 49; refine (hrec _).mono ?_; rintro e w3 ⟨b1, rfl, hK1, hN1, hB1⟩; have khB10 := hB1.cell (p := ⟨b, 0, none⟩) (by first | exact cell_lt (by assumption) | exact conj_lt (by assumption)); have khB11 := hB1.cell (p := ⟨b, 1, none⟩) (by first | exact cell_lt (by assumption) | exact conj_lt (by assumption)); have khB12 := hB1.cell (p := ⟨b, 2, none⟩) (by first | exact cell_lt (by assumption) | exact conj_lt (by assumption)); have khB13 := hB1.cell (p := ⟨b, 3, none⟩) (by first | exact cell_lt (by assumption) | exact conj_lt (by assumption)); have khB14 := hB1.cell (p := ⟨b, 4, none⟩) (by first | exact cell_lt (by assumption) | exact conj_lt (by assumption))))
   have hx3 : NodeC w3 bl k2 P2 V2 l2 r2 := by
     have hy := fun i => hB1.cell (p := ⟨bl, i, none⟩) (by show bl < _; exact hol)
     exact ⟨(hy 0).trans o0, (hy 1).trans o1, (hy 2).trans o2, (hy 3).trans o3, (hy 4).trans o4⟩
   obtain ⟨x0, x1, x2, x3, x4⟩ := hx3
   have hB0 : Below w.heap.size w w3 := below_mono (below_drewN _ _ _) hB1
   have hAA : ∀ n : Nat, NodeC (w3.drewN n).drew bl k2 P2 V2 l2 r2 := fun n => ⟨x0, x1, x2, x3, x4⟩
   have hz0 : w.heap.size <= w3.heap.size := hB0.size
   have hb3 : b < w3.heap.size := by omega
   have ho3 : bl < w3.heap.size := by omega
   have y1 : w3.cell? ⟨b, 1, none⟩ = some (.string P0) := (hB0.cell (p := ⟨b, 1, none⟩) hb).trans h1
   have hAB : ∀ n : Nat, (w3.drewN n).drew.cell? ⟨b, 1, none⟩ = some (.string P0) := fun n => y1
   go_wp2_with fail
   have f1 : ¬ (9223372036854775807 <= m) := by omega
   have f2 : ¬ (9223372036854775807 < m + 1) := by omega
   have f3 : m < 9223372036854775807 := by omega
   have f5 : ¬ (9223372036854775807 < m + 1 + P2.size) := by omega
   have f6 : m + 1 + P2.size <= 9223372036854775807 := by omega
   go_region_held3 (fun w' => w'.cell? ⟨b, 1, none⟩ = some (.string P0) /\ w'.cell? ⟨bl, 0, none⟩ = some (.int .i64 k2) /\ w'.cell? ⟨bl, 1, none⟩ = some (.string P2) /\ w'.cell? ⟨bl, 2, none⟩ = some (.string V2) /\ w'.cell? ⟨bl, 3, none⟩ = some (.pointer l2) /\ w'.cell? ⟨bl, 4, none⟩ = some (.pointer r2)) (go_keep)
     (first
     | (go_at_call 52; refine (hsg _).mono ?_; rintro e w4 ⟨rfl, rfl⟩)
     | (go_at_call 62; refine (moved_cells2 _ _ (by assumption)).mono ?_; rintro e w5 ⟨b3, rfl, hN3, hB3⟩; have q0 := hB3.cell (p := ⟨b, 1, none⟩) hb3; have q10 := hB3.cell (p := ⟨bl, 0, none⟩) ho3; have q11 := hB3.cell (p := ⟨bl, 1, none⟩) ho3; have q12 := hB3.cell (p := ⟨bl, 2, none⟩) ho3; have q13 := hB3.cell (p := ⟨bl, 3, none⟩) ho3; have q14 := hB3.cell (p := ⟨bl, 4, none⟩) ho3))
   go_wp2_with fail
   go_ret
   exact ⟨b3, rfl, hN3, below_mono hB0 (below_mono (below_drewN _ _ _) hB3)⟩
 | false =>
   simp only [bit, Bool.false_eq_true, if_false] at hsd
   simp only [pick, ptr, Bool.false_eq_true, if_false] at hrec h3 h4 o0 o1 o2 o3 o4 ⊢
   have hx : NodeC w br k2 P2 V2 l2 r2 := ⟨o0, o1, o2, o3, o4⟩
   have hol : br < w.heap.size := cell_lt o0
   go_enter Tryz.func49, Tryz.ntmps49
   go_wp2_with (go_at_call 61; refine (hsd _).mono ?_; rintro e w' ⟨rfl, n2, rfl⟩)
   go_region_held3 (fun w' => w'.cell? ⟨b, 0, none⟩ = some (.int .i64 1) /\ w'.cell? ⟨b, 1, none⟩ = some (.string P0) /\ w'.cell? ⟨b, 2, none⟩ = some (.string noText) /\ w'.cell? ⟨b, 3, none⟩ = some (.pointer (some ⟨bl, 0, none⟩)) /\ w'.cell? ⟨b, 4, none⟩ = some (.pointer (some ⟨br, 0, none⟩))) (go_keep)
     (first | (go_at_call 49; refine (hrec _).mono ?_; rintro e w3 ⟨b1, rfl, hK1, hN1, hB1⟩; have khB10 := hB1.cell (p := ⟨b, 0, none⟩) (by first | exact cell_lt (by assumption) | exact conj_lt (by assumption)); have khB11 := hB1.cell (p := ⟨b, 1, none⟩) (by first | exact cell_lt (by assumption) | exact conj_lt (by assumption)); have khB12 := hB1.cell (p := ⟨b, 2, none⟩) (by first | exact cell_lt (by assumption) | exact conj_lt (by assumption)); have khB13 := hB1.cell (p := ⟨b, 3, none⟩) (by first | exact cell_lt (by assumption) | exact conj_lt (by assumption)); have khB14 := hB1.cell (p := ⟨b, 4, none⟩) (by first | exact cell_lt (by assumption) | exact conj_lt (by assumption))))
   have hx3 : NodeC w3 br k2 P2 V2 l2 r2 := by
     have hy := fun i => hB1.cell (p := ⟨br, i, none⟩) (by show br < _; exact hol)
     exact ⟨(hy 0).trans o0, (hy 1).trans o1, (hy 2).trans o2, (hy 3).trans o3, (hy 4).trans o4⟩
   obtain ⟨x0, x1, x2, x3, x4⟩ := hx3
   have hB0 : Below w.heap.size w w3 := below_mono (below_drewN _ _ _) hB1
   have hAA : ∀ n : Nat, NodeC (w3.drewN n).drew br k2 P2 V2 l2 r2 := fun n => ⟨x0, x1, x2, x3, x4⟩
   have hz0 : w.heap.size <= w3.heap.size := hB0.size
   have hb3 : b < w3.heap.size := by omega
   have ho3 : br < w3.heap.size := by omega
   have y1 : w3.cell? ⟨b, 1, none⟩ = some (.string P0) := (hB0.cell (p := ⟨b, 1, none⟩) hb).trans h1
   have hAB : ∀ n : Nat, (w3.drewN n).drew.cell? ⟨b, 1, none⟩ = some (.string P0) := fun n => y1
   go_wp2_with fail
   have f1 : ¬ (9223372036854775807 <= m) := by omega
   have f2 : ¬ (9223372036854775807 < m + 1) := by omega
   have f3 : m < 9223372036854775807 := by omega
   have f5 : ¬ (9223372036854775807 < m + 1 + P2.size) := by omega
   have f6 : m + 1 + P2.size <= 9223372036854775807 := by omega
   go_region_held3 (fun w' => w'.cell? ⟨b, 1, none⟩ = some (.string P0) /\ w'.cell? ⟨br, 0, none⟩ = some (.int .i64 k2) /\ w'.cell? ⟨br, 1, none⟩ = some (.string P2) /\ w'.cell? ⟨br, 2, none⟩ = some (.string V2) /\ w'.cell? ⟨br, 3, none⟩ = some (.pointer l2) /\ w'.cell? ⟨br, 4, none⟩ = some (.pointer r2)) (go_keep)
     (first
     | (go_at_call 52; refine (hsg _).mono ?_; rintro e w4 ⟨rfl, rfl⟩)
     | (go_at_call 62; refine (moved_cells2 _ _ (by assumption)).mono ?_; rintro e w5 ⟨b3, rfl, hN3, hB3⟩; have q0 := hB3.cell (p := ⟨b, 1, none⟩) hb3; have q10 := hB3.cell (p := ⟨br, 0, none⟩) ho3; have q11 := hB3.cell (p := ⟨br, 1, none⟩) ho3; have q12 := hB3.cell (p := ⟨br, 2, none⟩) ho3; have q13 := hB3.cell (p := ⟨br, 3, none⟩) ho3; have q14 := hB3.cell (p := ⟨br, 4, none⟩) ho3))
   go_wp2_with fail
   go_ret
   exact ⟨b3, rfl, hN3, below_mono hB0 (below_mono (below_drewN _ _ _) hB3)⟩
variable {dg : DG}
structure Has (t : T ByteArray) (q : Bits) : Prop where
 rep : ∃ L, Rep L t /\ (∃ x, x ∈ L /\ x.1 = q) /\ ∀ x, x ∈ L -> x.1.length <= 1000
theorem path_short {t : T ByteArray} {L : List (Bits × ByteArray)} (h : Rep L t) (hne : L ≠ []) (hs : ∀ x, x ∈ L -> x.1.length <= 1000) : t.path.length <= 1000 := by
 obtain ⟨x, hx⟩ := rep_ne h hne
 obtain ⟨y, hy⟩ := rep_mem_path h x hx
 have := hs x hx
 rw [hy] at this
 simp at this; omega
theorem Has.side {p : Bits} {l r : T ByteArray} {q : Bits} (h : Has (.branch p l r) q) : ∃ s q2, q = p ++ s :: q2 /\ Has (if s then r else l) q2 /\ (if s then l else r).path.length <= 1000 /\ (if s then l else r).isEmpty = false /\ (if s then r else l).isEmpty = false /\ p.length <= 1000 /\ q2.length <= 1000 := by
 obtain ⟨L, hL, ⟨x, hx, rfl⟩, hs⟩ := h
 have hq := hs x hx
 cases hL with
 | @branch l0 l1 _ _ _ h0 h1 a0 a1 =>
   have hs0 : ∀ y, y ∈ l0 -> y.1.length <= 1000 := fun y hy => by
     have := hs _ (List.mem_append_left _ (List.mem_map.2 ⟨y, hy, rfl⟩))
     simp [pre] at this; omega
   have hs1 : ∀ y, y ∈ l1 -> y.1.length <= 1000 := fun y hy => by
     have := hs _ (List.mem_append_right _ (List.mem_map.2 ⟨y, hy, rfl⟩))
     simp [pre] at this; omega
   have n0 : l.isEmpty = false := by
     cases e : l.isEmpty with
     | false => rfl
     | true => exact absurd ((rep_isEmpty a0).1 e) h0
   have n1 : r.isEmpty = false := by
     cases e : r.isEmpty with
     | false => rfl
     | true => exact absurd ((rep_isEmpty a1).1 e) h1
   rcases List.mem_append.1 hx with h | h
   · obtain ⟨y, hy, rfl⟩ := List.mem_map.1 h
     refine ⟨false, y.1, by simp [pre], ⟨l0, a0, ⟨y, hy, rfl⟩, hs0⟩, path_short a1 h1 hs1, n1, n0, ?_, hs0 y hy⟩
     simp [pre] at hq; omega
   · obtain ⟨y, hy, rfl⟩ := List.mem_map.1 h
     refine ⟨true, y.1, by simp [pre], ⟨l1, a1, ⟨y, hy, rfl⟩, hs1⟩, path_short a0 h0 hs0, n0, n1, ?_, hs1 y hy⟩
     simp [pre] at hq; omega
theorem TAt.kind {w : World} {t : T ByteArray} {b : Nat} (h : TAt dg w t b) : w.cell? ⟨b, 0, none⟩ = some (.int .i64 t.tr.kind) := by
 obtain ⟨l, r, d, s, h, _⟩ := TAt.node h
 exact (NodeAt.cells h).1
theorem without_any : ∀ (t : T ByteArray) (q : Bits) (w : World) (b : Nat), Has t q -> TAt dg w t b ->
   Calls Tryz.prog 49 #[.pointer (ptr b), .string (str q)] w fun e w' => ∃ b', e = .returned (.pointer (ptr b')) /\ TAt dg w' (t.wo q) b' /\ Below w.heap.size w w'
 | .empty, q, w, b, hF, hT => by
   obtain ⟨L, hL, ⟨x, hx, _⟩, _⟩ := hF
   cases hL
   cases hx
 | .leaf p z, q, w, b, hF, hT => by
   obtain ⟨_, d, s, h, _⟩ := hT
   refine (without_leaf h).mono ?_
   rintro e w' ⟨b', rfl, h1, h2⟩
   exact ⟨b', rfl, ⟨trivial, 0, false, h1, fun e => by cases e⟩, h2⟩
 | .branch p l r, q, w, b, hF, hT => by
   obtain ⟨s, q2, rfl, hside, hop, hone, hcne, hp1, hq1⟩ := hF.side
   obtain ⟨_, bl, br, d, sl, h1, h2, h3, h4⟩ := hT
   have hsz : (str (p ++ s :: q2)).size = p.length + (q2.length + 1) := by rw [str_size]; simp
   have hsz2 : (str p).size = p.length := str_size p
   have hsz3 : (str (s :: q2)).size = q2.length + 1 := by rw [str_size]; simp
   have e1 : (str (p ++ s :: q2)).extract p.length (p.length + (q2.length + 1)) = str (s :: q2) := str_off rfl rfl
   have e3 : (str (s :: q2)).extract 1 (q2.length + 1) = str q2 := str_off (q := [s]) (r := q2) rfl (by simp; omega)
   have hrec : ∀ n, Calls Tryz.prog 49 #[.pointer (ptr (pick s bl br)), .string (str q2)] (w.drewN n) fun e w' => ∃ b', e = .returned (.pointer (ptr b')) /\ w'.cell? ⟨b', 0, none⟩ = some (.int .i64 ((if s then r else l).wo q2).tr.kind) /\ (TAt dg w' ((if s then r else l).wo q2) b' /\ Below w.heap.size w w') /\ Below (w.drewN n).heap.size (w.drewN n) w' := by
     intro n
     have hB := below_drewN w.heap.size w n
     cases s with
     | true =>
       refine (without_any r q2 (w.drewN n) br hside (TAt.below h3 hB)).mono ?_
       rintro e w' ⟨b', rfl, k1, k2⟩
       exact ⟨b', rfl, TAt.kind k1, ⟨k1, below_mono hB k2⟩, k2⟩
     | false =>
       refine (without_any l q2 (w.drewN n) bl hside (TAt.below h2 hB)).mono ?_
       rintro e w' ⟨b', rfl, k1, k2⟩
       exact ⟨b', rfl, TAt.kind k1, ⟨k1, below_mono hB k2⟩, k2⟩
   have hwo : (T.branch p l r).wo (p ++ s :: q2) = if ((if s then r else l).wo q2).isEmpty then (if s then l else r).moved (p ++ [!s] ++ (if s then l else r).path) else if s then .branch p l (r.wo q2) else .branch p (l.wo q2) r := by
     simp only [T.wo, drop_app]
     cases s <;> rfl
   rw [hwo]
   cases he : ((if s then r else l).wo q2).isEmpty with
   | true =>
     rw [if_pos rfl]
     have hk : ((if s then r else l).wo q2).tr.kind = 2 := by
       cases h : (if s then r else l).wo q2 with
       | empty => rfl
       | leaf _ _ => rw [h] at he; cases he
       | branch _ _ _ => rw [h] at he; cases he
     rw [hk] at hrec
     have hOT : TAt dg w (if s then l else r) (pick s br bl) := by cases s with
       | true => exact h2
       | false => exact h3
     obtain ⟨l2, r2, d2, s2, hO, hmv⟩ := TAt.node hOT
     refine (without_gone (s := s) (m := p.length) (a := q2.length) (SG := str [!s]) h1 (by rw [str_size]; exact hop) (by rw [str_size]; rfl) (fun w1 => sign_any (!s) w1) hO hp1 hsz hsz2 hsz3 (fun w1 => sideOf_any s q2 w1) e1 e3 hrec).mono ?_
     rintro e w' ⟨b', rfl, k1, k2⟩
     rw [str_append, str_append] at k1
     refine ⟨b', rfl, ?_, k2⟩
     rcases hmv _ w' b' k2 k1 with h | h
     · rw [hone] at h; exact h
     · rw [hone] at h; cases h
   | false =>
     rw [if_neg (by decide)]
     refine (without_down (s := s) (m := p.length) (a := q2.length) h1 (kind_ne he) hp1 hsz hsz2 hsz3 (fun w1 => sideOf_any s q2 w1) e1 e3 hrec).mono ?_
     rintro e w' ⟨b', c, w2, rfl, k1, ⟨k2, k3⟩, k4, k5⟩
     refine ⟨b', rfl, ?_, k5⟩
     cases s with
     | true => exact tat_branch k1 (TAt.below h2 k5) (TAt.below k2 k4)
     | false => exact tat_branch k1 (TAt.below k2 k4) (TAt.below h3 k5)
set_option maxRecDepth 20000 in
set_option maxHeartbeats 4000000 in
theorem prefix_raw {s1 s2 X : ByteArray} {a c : Nat} {r : Bool} (w : World) (h1 : s1.size = a) (h2 : s2.size = c) (hs : s1.size <= 100000) (hle : c <= a) (hx : s1.extract 0 c = X) (hr : (X = s2) ↔ r = true) :
   Calls Tryz.prog 87 #[.string s1, .string s2] w fun e w' => e = .returned (.bool r) /\ w' = w := by
 have i0 : (c : Int) <= (a : Int) := by omega
 have i1 : decide ((c : Int) <= (a : Int)) = true := decide_eq_true (by omega)
 have i2 : decide ((a : Int) ≥ (c : Int)) = true := decide_eq_true (by omega)
 have hl : (X.toList == s2.toList) = r := by
   rw [Lib.toList_data, Lib.toList_data]
   cases r with
   | true => rw [hr.2 rfl]; exact beq_self_eq_true _
   | false => exact beq_eq_false_iff_ne.2 fun e => by cases hr.1 (bytes_ext e)
 go_enter Tryz.func87, Tryz.ntmps87
 go_wp2
 go_ret
 exact ⟨rfl, rfl⟩
set_option maxRecDepth 20000 in
set_option maxHeartbeats 4000000 in
theorem prefix_raw' {s1 s2 : ByteArray} {a c : Nat} (w : World) (h1 : s1.size = a) (h2 : s2.size = c) (hlt : a < c) :
   Calls Tryz.prog 87 #[.string s1, .string s2] w fun e w' => e = .returned (.bool false) /\ w' = w := by
 have i0 : ¬ (c : Int) <= (a : Int) := by omega
 have i1 : decide ((c : Int) <= (a : Int)) = false := decide_eq_false (by omega)
 have i2 : decide ((a : Int) ≥ (c : Int)) = false := decide_eq_false (by omega)
 go_enter Tryz.func87, Tryz.ntmps87
 go_wp2
 go_ret
 exact ⟨rfl, rfl⟩
theorem isPre {p q : Bits} : str q = str p ↔ q = p := ⟨str_inj, fun e => by rw [e]⟩
theorem take_pre {p q : Bits} : (q.take p.length = p) ↔ p <+: q := by
 constructor
 · intro h; exact ⟨q.drop p.length, by conv => lhs; lhs; rw [<- h]
                                       exact List.take_append_drop _ _⟩
 · rintro ⟨x, rfl⟩; simp
theorem prefix_any (q p : Bits) (w : World) (hq : q.length <= 1000) :
   Calls Tryz.prog 87 #[.string (str q), .string (str p)] w fun e w' => e = .returned (.bool (decide (p <+: q))) /\ w' = w := by
 by_cases h : p.length <= q.length
 · refine prefix_raw (X := str (q.take p.length)) w (str_size q) (str_size p) (by rw [str_size]; omega) h (str_take q _) ?_
   rw [isPre, take_pre]; simp
 · have hn : ¬ p <+: q := fun hp => h hp.length_le
   rw [decide_eq_false hn]
   exact prefix_raw' w (str_size q) (str_size p) (by omega)
set_option maxHeartbeats 2000000 in
theorem hasPrefix_any (q p : Bits) (w : World) (hq : q.length <= 1000) :
   Calls Tryz.prog 68 #[.string (str q), .string (str p)] w fun e w' => e = .returned (.bool (decide (p <+: q))) /\ w' = w := by
 have h := prefix_any q p w hq
 generalize str q = s1 at h ⊢
 generalize str p = s2 at h ⊢
 go_enter Tryz.func68, Tryz.ntmps68
 go_wp2_with (go_at_call 87; refine h.mono ?_; rintro e w' ⟨rfl, rfl⟩)
 go_ret
 exact ⟨rfl, rfl⟩
set_option maxRecDepth 20000 in
set_option maxHeartbeats 2000000 in
theorem leads_raw {w : World} {b : Nat} {P0 V0 S0 : ByteArray} {l r : Option Addr} {d : Int} {sl u : Bool} (hN : NodeAt ndT w b 1 P0 V0 l r d sl)
   (hp : ∀ w, Calls Tryz.prog 68 #[.string S0, .string P0] w fun e w' => e = .returned (.bool u) /\ w' = w) :
   Calls Tryz.prog 53 #[.pointer (some ⟨b, 0, none⟩), .string S0] w fun e w' => e = .returned (.bool u) /\ ∃ n, w' = w.drewN n := by
 obtain ⟨h0, h1, h2, h3, h4, h5⟩ := NodeAt.cells hN
 have hb := NodeAt.lt hN
 go_enter Tryz.func53, Tryz.ntmps53
 go_wp2_with (go_at_call 68; refine (hp _).mono ?_; rintro e w' ⟨rfl, rfl⟩)
 go_ret
 exact ⟨rfl, 0, rfl⟩
set_option maxRecDepth 20000 in
set_option maxHeartbeats 2000000 in
theorem leads_raw' {w : World} {b : Nat} {k : Int} {P0 V0 S0 : ByteArray} {l r : Option Addr} {d : Int} {sl : Bool} (hN : NodeAt ndT w b k P0 V0 l r d sl) (hk : ¬ k = 1) :
   Calls Tryz.prog 53 #[.pointer (some ⟨b, 0, none⟩), .string S0] w fun e w' => e = .returned (.bool false) /\ ∃ n, w' = w.drewN n := by
 obtain ⟨h0, h1, h2, h3, h4, h5⟩ := NodeAt.cells hN
 have hb := NodeAt.lt hN
 have hk2 : decide (k = 1) = false := decide_eq_false hk
 have hk1 : (k == 1) = false := by simpa using hk
 go_enter Tryz.func53, Tryz.ntmps53
 go_wp2_with fail
 go_ret
 exact ⟨rfl, 0, rfl⟩
set_option maxRecDepth 20000 in
set_option maxHeartbeats 4000000 in
theorem below_raw {w : World} {b : Nat} {P0 S0 R0 Y0 : ByteArray} {bl br : Nat} {d : Int} {sl s : Bool} {m a : Nat} (hN : NodeAt ndT w b 1 P0 noText (ptr bl) (ptr br) d sl) (hm : m <= 1000)
   (hsz : S0.size = m + (a + 1)) (hsz2 : P0.size = m) (hsz3 : R0.size = a + 1)
   (hsd : ∀ w, Calls Tryz.prog 61 #[.string R0] w fun e w' => e = .returned (.int .i64 (bit s)) /\ ∃ n, w' = w.drewN n)
   (e1 : S0.extract m (m + (a + 1)) = R0) (e3 : R0.extract 1 (a + 1) = Y0) :
   Calls Tryz.prog 54 #[.pointer (some ⟨b, 0, none⟩), .string S0] w fun e w' => e = .returned (.tuple #[.pointer (ptr (pick s bl br)), .string Y0]) /\ ∃ n, w' = w.drewN n := by
 obtain ⟨h0, h1, h2, h3, h4, h5⟩ := NodeAt.cells hN
 have hb := NodeAt.lt hN
 have i0 : (0 : Int) <= (m : Int) := by omega
 have i1 : (m : Int) <= (S0.size : Int) := by omega
 have i2 : (m : Int) <= ((m + (a + 1) : Nat) : Int) := by omega
 have i3 : (m : Int) <= (m : Int) + ((a : Int) + 1) := by omega
 have j1 : (1 : Int) <= (R0.size : Int) := by omega
 have j2 : (1 : Int) <= ((a + 1 : Nat) : Int) := by omega
 have j3 : (1 : Int) <= (a : Int) + 1 := by omega
 have u1 : IntKind.i64.wrap 1 = 1 := rfl
 have u0 : IntKind.i64.wrap 0 = 0 := rfl
 cases s with
 | true =>
   simp only [bit, if_true] at hsd
   simp only [pick, if_true]
   go_enter Tryz.func54, Tryz.ntmps54
   go_wp2
   go_region_held3 (fun w' => w'.cell? ⟨b, 0, none⟩ = some (.int .i64 1) /\ w'.cell? ⟨b, 1, none⟩ = some (.string P0) /\ w'.cell? ⟨b, 2, none⟩ = some (.string noText) /\ w'.cell? ⟨b, 3, none⟩ = some (.pointer (ptr bl)) /\ w'.cell? ⟨b, 4, none⟩ = some (.pointer (ptr br))) (go_keep)
     (first | (go_at_call 61; refine (hsd _).mono ?_; rintro e w' ⟨rfl, n2, rfl⟩))
   go_wp2
   exact bodyPost_ret (v := .tuple #[.pointer (ptr br), .string Y0]) (by simp [results, Tryz.results54, go_sem]; try rfl) rfl ⟨rfl, _, rfl⟩
 | false =>
   simp only [bit, Bool.false_eq_true, if_false] at hsd
   simp only [pick, Bool.false_eq_true, if_false]
   go_enter Tryz.func54, Tryz.ntmps54
   go_wp2
   go_region_held3 (fun w' => w'.cell? ⟨b, 0, none⟩ = some (.int .i64 1) /\ w'.cell? ⟨b, 1, none⟩ = some (.string P0) /\ w'.cell? ⟨b, 2, none⟩ = some (.string noText) /\ w'.cell? ⟨b, 3, none⟩ = some (.pointer (ptr bl)) /\ w'.cell? ⟨b, 4, none⟩ = some (.pointer (ptr br))) (go_keep)
     (first | (go_at_call 61; refine (hsd _).mono ?_; rintro e w' ⟨rfl, n2, rfl⟩))
   go_wp2
   exact bodyPost_ret (v := .tuple #[.pointer (ptr bl), .string Y0]) (by simp [results, Tryz.results54, go_sem]; try rfl) rfl ⟨rfl, _, rfl⟩
variable {dg : DG}
theorem undrewN (B : Nat) (w : World) (n : Nat) : Below B (w.drewN n) w := ⟨rfl, rfl, rfl, Nat.le_refl _, fun _ _ => rfl⟩
def goes : T ByteArray -> Bits -> Bool
 | .branch p _ _, q => decide (p <+: q)
 | _, _ => false
theorem leads_any {t : T ByteArray} {q : Bits} {w : World} {b : Nat} (hT : TAt dg w t b) (hl : q.length <= 1000) :
   Calls Tryz.prog 53 #[.pointer (ptr b), .string (str q)] w fun e w' => e = .returned (.bool (goes t q)) /\ ∃ n, w' = w.drewN n := by
 cases t with
 | empty => obtain ⟨_, d, s, h, _⟩ := hT; exact leads_raw' h (by decide)
 | leaf p v => obtain ⟨_, d, s, h, _⟩ := hT; exact leads_raw' h (fun e => by cases e)
 | branch p l r => obtain ⟨_, bl, br, d, s, h, _⟩ := hT; exact leads_raw h fun w1 => hasPrefix_any q p w1 hl
theorem below_any {p q2 : Bits} {l r : T ByteArray} {s : Bool} {w : World} {b : Nat} (hT : TAt dg w (.branch p l r) b) (hl : (p ++ s :: q2).length <= 1000) :
   Calls Tryz.prog 54 #[.pointer (ptr b), .string (str (p ++ s :: q2))] w fun e w' => ∃ c, e = .returned (.tuple #[.pointer (ptr c), .string (str q2)]) /\ TAt dg w (if s then r else l) c /\ ∃ n, w' = w.drewN n := by
 obtain ⟨_, bl, br, d, sl, h1, h2, h3, h4⟩ := hT
 refine (below_raw (P0 := str p) (S0 := str (p ++ s :: q2)) (R0 := str (s :: q2)) (Y0 := str q2) (m := p.length) (a := q2.length) (s := s) h1 ?_ ?_ (str_size p) ?_ (fun w1 => sideOf_any s q2 w1) (str_off rfl rfl) (str_off (q := [s]) (r := q2) rfl (by simp; omega))).mono ?_
 · simp at hl; omega
 · rw [str_size]; simp
 · rw [str_size]; simp
 · rintro e w' ⟨rfl, n, rfl⟩
   refine ⟨pick s bl br, rfl, ?_, n, rfl⟩
   cases s with
   | true => exact h3
   | false => exact h2
theorem get_down (p q2 : Bits) (s : Bool) (l r : T ByteArray) : (T.branch p l r).get (p ++ s :: q2) = (if s then r else l).get q2 := by
 simp only [T.get]
 rw [if_pos ⟨s :: q2, rfl⟩, drop_app]
 cases s <;> rfl
def strSize : Value -> Nat
 | .string s => s.size
 | _ => 0
set_option maxRecDepth 20000 in
set_option maxHeartbeats 4000000 in
theorem find_any {t : T ByteArray} {q : Bits} {w : World} {b : Nat} (hF : Fits t q) (hT : TAt dg w t b) :
   Calls Tryz.prog 44 #[.pointer (ptr b), .string (str q)] w fun e w' => ∃ t' q' b', e = .returned (.tuple #[.pointer (ptr b'), .string (str q')]) /\ Fits t' q' /\ TAt dg w t' b' /\ t'.get q' = t.get q /\ goes t' q' = false /\ ∃ n, w' = w.drewN n := by
 go_enter Tryz.func44, Tryz.ntmps44
 go_wp2
 go_loopw [0, 1] (fun n s wr => ∃ t' q' b' k, n = .pointer (ptr b') /\ s = .string (str q') /\ Fits t' q' /\ TAt dg w t' b' /\ t'.get q' = t.get q /\ wr = w.drewN k) (fun _ s _ => strSize s)
 case atStart => exact ⟨t, q, b, 0, rfl, rfl, hF, hT, rfl, rfl⟩
 case round =>
   obtain ⟨t', q', b', k, rfl, rfl, hF', hT', hg, rfl⟩ := hrel
   have hTk : ∀ n, TAt dg (w.drewN n) t' b' := fun n => TAt.below hT' (below_drewN _ _ _)
   cases hgo : goes t' q' with
   | true =>
     cases t' with
     | empty => cases hgo
     | leaf _ _ => cases hgo
     | branch p l r =>
       have hpre : p <+: q' := of_decide_eq_true hgo
       rcases hF'.stand rfl with ⟨_, _, e, _⟩ | ⟨_, _, _, s, q2, e, rfl⟩ | ⟨q1, s, x, y, e1, e2⟩
       · cases e
       · cases e
         go_wp2_with (first
           | (go_at_call 53; refine (leads_any (hTk _) hF'.short).mono ?_; rw [hgo]; rintro e w' ⟨rfl, n1, rfl⟩)
           | (go_at_call 54; refine (below_any (hTk _) hF'.short).mono ?_; rintro e w' ⟨c, rfl, hc, n2, rfl⟩))
         go_roundw
         case rel => exact ⟨_, q2, c, _, rfl, rfl, hF'.side, TAt.below hc (undrewN _ _ _), by rw [<- hg, get_down], rfl⟩
         case measure => simp only [strSize, str_size]; simp; omega
       · exfalso
         obtain ⟨z, hz⟩ := hpre
         simp only [T.path] at e1
         rw [e1, e2] at hz
         simp at hz
   | false =>
     go_wp2_with (first
       | (go_at_call 53; refine (leads_any (hTk _) hF'.short).mono ?_; rw [hgo]; rintro e w' ⟨rfl, n1, rfl⟩))
     exact bodyPost_ret (v := .tuple #[.pointer (ptr b'), .string (str q')]) (by simp [results, Tryz.results44, go_sem]; try rfl) rfl ⟨t', q', b', rfl, hF', hT', hg, hgo, _, rfl⟩
def gotten : Option ByteArray -> Value
 | some v => .tuple #[.string v, .bool true]
 | none => .tuple #[.string noText, .bool false]
variable {dg : DG}
theorem bottom_is {t : T ByteArray} {q : Bits} {w : World} {b : Nat} (hT : TAt dg w t b) (hgo : goes t q = false) :
   (∃ k : Int, w.cell? ⟨b, 0, none⟩ = some (.int .i64 k) /\ ¬ k = 0 /\ (k != 0) = true /\ t.get q = none) ∨
   (∃ p v : ByteArray, w.cell? ⟨b, 0, none⟩ = some (.int .i64 0) /\ w.cell? ⟨b, 1, none⟩ = some (.string p) /\ (p.toList == (str q).toList) = false /\ (¬ p.toList = (str q).toList) /\ t.get q = none) ∨
   (∃ v : ByteArray, w.cell? ⟨b, 0, none⟩ = some (.int .i64 0) /\ w.cell? ⟨b, 1, none⟩ = some (.string (str q)) /\ w.cell? ⟨b, 2, none⟩ = some (.string v) /\ t.get q = some v) := by
 cases t with
 | empty =>
   obtain ⟨_, d, s, h, _⟩ := hT
   obtain ⟨h0, h1, h2, h3, h4, h5⟩ := NodeAt.cells h
   exact .inl ⟨2, h0, by decide, rfl, rfl⟩
 | branch p l r =>
   obtain ⟨_, bl, br, d, s, h, _⟩ := hT
   obtain ⟨h0, h1, h2, h3, h4, h5⟩ := NodeAt.cells h
   refine .inl ⟨1, h0, by decide, rfl, ?_⟩
   simp only [T.get]
   exact if_neg (of_decide_eq_false hgo)
 | leaf p v =>
   obtain ⟨_, d, s, h, _⟩ := hT
   obtain ⟨h0, h1, h2, h3, h4, h5⟩ := NodeAt.cells h
   by_cases e : p = q
   · subst e
     refine .inr (.inr ⟨v, h0, h1, h2, ?_⟩)
     simp [T.get]
   · have hn : ¬ (str p).toList = (str q).toList := by
       rw [Lib.toList_data, Lib.toList_data]
       exact fun h => e (str_inj (bytes_ext h))
     refine .inr (.inl ⟨str p, v, h0, h1, beq_eq_false_iff_ne.2 hn, hn, ?_⟩)
     simp [T.get, e]
set_option maxRecDepth 20000 in
set_option maxHeartbeats 4000000 in
theorem get_any {t : T ByteArray} {q : Bits} {w : World} {b : Nat} (hF : Fits t q) (hT : TAt dg w t b) :
   Calls Tryz.prog 31 #[.pointer (ptr b), .string (str q)] w fun e w' => e = .returned (gotten (t.get q)) /\ ∃ n, w' = w.drewN n := by
 go_enter Tryz.func31, Tryz.ntmps31
 go_wp2_with (go_at_call 44; refine (find_any hF hT).mono ?_; rintro e w' ⟨t', q', b', rfl, hF', hT', hg, hgo, n, rfl⟩; have hx := bottom_is (TAt.below hT' (below_drewN w.heap.size w n)) hgo; rw [hg] at hx; clear hF' hT' hg hgo; simp only [ptr]; rcases hx with ⟨k, g1, g2, g3, hO⟩ | ⟨p, v, g1, g2, g3, g4, hO⟩ | ⟨v, g1, g2, g3, hO⟩)
 · exact bodyPost_ret (v := .tuple #[.string noText, .bool false]) (by simp [results, Tryz.results31, go_sem]; try rfl) rfl ⟨by rw [hO]; rfl, _, rfl⟩
 · exact bodyPost_ret (v := .tuple #[.string noText, .bool false]) (by simp [results, Tryz.results31, go_sem]; try rfl) rfl ⟨by rw [hO]; rfl, _, rfl⟩
 · exact bodyPost_ret (v := .tuple #[.string v, .bool true]) (by simp [results, Tryz.results31, go_sem]; try rfl) rfl ⟨by rw [hO]; rfl, _, rfl⟩
set_option maxHeartbeats 1000000 in
theorem digest_any {t : T ByteArray} {w : World} {b : Nat} {k d : Int} {p v : ByteArray} {l r : Option Addr} {s : Bool} (hN : NodeAt ndT w b k p v l r d s) :
   Calls Tryz.prog 27 #[.pointer (ptr b)] w fun e w' => e = .returned (.int .i64 d) /\ w' = w := by
 obtain ⟨h0, h1, h2, h3, h4, h5⟩ := NodeAt.cells hN
 have hb := NodeAt.lt hN
 simp only [ptr]
 go_enter Tryz.func27, Tryz.ntmps27
 go_wp2_with fail
 go_ret
 exact ⟨rfl, rfl⟩
end Go.Proofs.YtddcbeeldjjmeaaGreat
namespace Go.Proofs.YtddcbeeldjjmeaaGreat
open Go Go.RowKit Go.Nest Go.Tm Go.Proofs.YtddcbeeldjjmeaaGreat.Tw
set_option linter.unusedVariables false
set_option linter.unusedSimpArgs false
def sgs (p : Bits) : List UInt8 := p.map sg
theorem S_sgs (p : Bits) : Tw.S (sgs p) = str p := rfl
theorem sgs_append (a b : Bits) : sgs a ++ sgs b = sgs (a ++ b) := by simp [sgs]
theorem sgs_length (a : Bits) : (sgs a).length = a.length := by simp [sgs]
theorem bit_code (m : Nat) (h : m < 256) : (48 + Go.bits .and .u8 (m : Int) 1) % 256 = ((sg (m % 2 == 1)).toNat : Int) := by
 have hu := u8_and_nat m 1 h (by omega)
 rw [show (1 : Int) = ((1 : Nat) : Int) from rfl, hu, Nat.and_one_is_mod]
 rcases Nat.mod_two_eq_zero_or_one m with e | e <;> rw [e] <;> rfl
theorem bit_codes (c : UInt8) : ((48 + Go.bits .and .u8 ((c.toNat : Int) / 128) 1) % 256 = ((sg (bitOf c 7)).toNat : Int)) /\ ((48 + Go.bits .and .u8 ((c.toNat : Int) / 64) 1) % 256 = ((sg (bitOf c 6)).toNat : Int)) /\ ((48 + Go.bits .and .u8 ((c.toNat : Int) / 32) 1) % 256 = ((sg (bitOf c 5)).toNat : Int)) /\ ((48 + Go.bits .and .u8 ((c.toNat : Int) / 16) 1) % 256 = ((sg (bitOf c 4)).toNat : Int)) /\ ((48 + Go.bits .and .u8 ((c.toNat : Int) / 8) 1) % 256 = ((sg (bitOf c 3)).toNat : Int)) /\ ((48 + Go.bits .and .u8 ((c.toNat : Int) / 4) 1) % 256 = ((sg (bitOf c 2)).toNat : Int)) /\ ((48 + Go.bits .and .u8 ((c.toNat : Int) / 2) 1) % 256 = ((sg (bitOf c 1)).toNat : Int)) /\ ((48 + Go.bits .and .u8 (c.toNat : Int) 1) % 256 = ((sg (bitOf c 0)).toNat : Int)) := by
 have hc := c.toNat_lt
 have key : ∀ d : Nat, ((c.toNat : Int) / (d : Int)) = ((c.toNat / d : Nat) : Int) := fun d => (Int.natCast_ediv _ _).symm
 have hd : ∀ d : Nat, c.toNat / d < 256 := fun d => Nat.lt_of_le_of_lt (Nat.div_le_self _ _) hc
 refine ⟨?_, ?_, ?_, ?_, ?_, ?_, ?_, ?_⟩
 · exact bit_code (c.toNat / 128) (hd _)
 · exact bit_code (c.toNat / 64) (hd _)
 · exact bit_code (c.toNat / 32) (hd _)
 · exact bit_code (c.toNat / 16) (hd _)
 · exact bit_code (c.toNat / 8) (hd _)
 · exact bit_code (c.toNat / 4) (hd _)
 · exact bit_code (c.toNat / 2) (hd _)
 · have := bit_code c.toNat hc
   rw [this]; simp [bitOf]
theorem Own.none (base : Nat) (w : World) (M : Array Value) (cap : Nat) (hb : base <= w.heap.size) (hc : M.size = cap) (h0 : cap <= maxLen) : Tw.Own base (w.alloc (.cells M 5)) (.slice (some ⟨w.heap.size, 0, none⟩) 0 cap) [] := by
 refine ⟨by simp [cellsB], Or.inr ⟨w.heap.size, cap, M, rfl, hb, heap_alloc_new w _, Nat.zero_le _, h0, by simp [hc], by simp [cellsB]⟩⟩
set_option maxRecDepth 20000 in
set_option maxHeartbeats 4000000 in
theorem bits_raw (key : ByteArray) (l : List UInt8) (n : Nat) (w : World) (hk : key.size = n) (hl : l.length = n) (hg : ∀ k (h : k < key.size), ∃ h2 : k < l.length, key[k] = l[k]) (hn : n <= 4) :
   Calls Tryz.prog 32 #[.string key] w fun e w' => e = .returned (.string (str (kb l))) /\ Below w.heap.size w w' := by
 obtain ⟨i0, hi, hz0, hz1, hz2⟩ := info_parts u8info
 obtain ⟨M, hM⟩ : ∃ M, M = madeCells (Value.int .u8 0).cells (9 * n + 1) := ⟨_, rfl⟩
 have hMs : M.size = 9 * n + 1 := by rw [hM]; simp [madeCells, Value.cells]
 have hmk : ∀ W : World, (Instr.makeSlice 93 (.int .i64 0) (.int .i64 (9 * (n : Int) + 1))).run Tryz.prog W = .ok (.slice (some ⟨W.heap.size, 0, none⟩) 0 (9 * n + 1)) (W.alloc (.cells M 5)) := fun W => by
   have h := run_make (P := Tryz.prog) W 93 5 i0 (.int .u8 0) Tryz.underlying93 hi hz0 .i64 .i64 0 (9 * (n : Int) + 1) (by omega) (by omega) (by rw [hz2]; omega) (by omega)
   rw [hz1, show (9 * (n : Int) + 1).toNat = 9 * n + 1 from by omega, Nat.mul_one, <- hM] at h
   exact h
 have o1 : IntKind.i64.wrap (9 * (n : Int)) = 9 * (n : Int) := Go.wrap_small _ (by omega) (by omega)
 have o2 : IntKind.i64.wrap (9 * (n : Int) + 1) = 9 * (n : Int) + 1 := Go.wrap_small _ (by omega) (by omega)
 go_enter Tryz.func32, Tryz.ntmps32
 go_wp2
 obtain ⟨base, hbase⟩ : ∃ x, x = w.heap.size := ⟨_, rfl⟩
 have hB0 : ∀ o, Below base w (w.alloc o) := fun o => by rw [hbase]; exact (Below.refl _ _).alloc (Nat.le_refl _) _
 have hO0 := Own.none base w (madeCells #[Value.int IntKind.u8 0] (9 * n + 1)) (9 * n + 1) (by omega) (by simp [madeCells]) (by unfold maxLen; omega)
 have hz0' : ∀ o : Obj, base <= (w.alloc o).heap.size := fun o => by rw [hbase]; simp
 rw [<- hbase]
 rw [<- hbase] at hO0
 have HBs : Hid (base = w.heap.size) := hbase
 clear hbase
 have HM : Hid _ := hM
 clear hM hMs hmk o1 o2
 go_loopw [3, 13] (fun v i wr => ∃ k : Nat, k <= n /\ i = .int .i64 k /\ Own base wr v (sgs (kbs (l.take k))) /\ Below base w wr /\ base <= wr.heap.size) (fun _ i _ => n - (intOf i).toNat)
 case atStart => exact ⟨0, by omega, rfl, hO0, hB0 _, hz0' _⟩
 case round =>
   obtain ⟨k, hkn, rfl, hO, hB, hbr⟩ := hrel
   by_cases hlt : k < n
   · have hlen : (sgs (kbs (l.take k))).length <= 40 := by rw [sgs_length, kbs_length, List.length_take]; omega
     generalize hL : sgs (kbs (l.take k)) = L at hO hlen
     have HL : Hid _ := hL
     clear hL
     unfold Own at hO
     have hd : decide ((k : Int) < (n : Int)) = true := decide_eq_true (by omega)
     go_wp2_with (at_builtin; refine wpList_append_own _ rfl (.tmp 16) (.tmp 17) 93 rfl base 5 i0 (.int .u8 0) 1 1 Tryz.underlying93 hi hz0 hz1 hz2 rfl (by decide) _ _ _ rfl (hO.alloc _) ⟨wr.heap.size, 0, none⟩ 1 1 _ rfl rfl (cell_one_new _ _ _) ?c2 ?c3 ?c4 ?c5 ?_)
     case c2 => intro u hu; simp at hu; subst hu; rfl
     case c3 => unfold maxLen; omega
     case c4 => omega
     case c5 => simp; omega
     · intro v' w1 hown1 hgrow _
       have hO2 := Own.snoc (sg true) rfl hown1
       have hB2 := (hB.alloc hbr _).grown hgrow (by simp; omega) (Own.block hO)
       have hb2 : base <= w1.heap.size := by have := hB2.size; rw [HBs.out]; exact this
       clear hown1 hgrow hO hB
       go_wp2
       obtain ⟨hk2, hkl⟩ := hg k (by omega)
       have hkk : k < key.size := by omega
       obtain ⟨c, hc⟩ : ∃ c, c = l[k] := ⟨_, rfl⟩
       have hkc : key[k] = c := by rw [hc]; exact hkl
       have HC : Hid (c = l[k]) := hc
       clear hkl hc
       go_loopw [3, 5] (fun v p wr => ∃ j : Nat, j <= 8 /\ p = .int .i64 (7 - (j : Int)) /\ Own base wr v (L ++ [sg true] ++ sgs ((eight c).take j)) /\ Below base w wr /\ base <= wr.heap.size) (fun _ p _ => (intOf p + 1).toNat)
       case atStart => exact ⟨0, by omega, rfl, by simpa [sgs] using hO2, hB2, hb2⟩
       case round =>
         obtain ⟨j, hj8, rfl, hO, hB, hbr⟩ := hrel
         by_cases hj : j < 8
         · have hlen2 : (L ++ [sg true] ++ sgs ((eight c).take j)).length <= 60 := by simp [sgs]; omega
           have hcc : (c.toNat : Int) < 256 := by have := c.toNat_lt; omega
           have hbc := bit_codes c
           generalize hP : L ++ [sg true] ++ sgs ((eight c).take j) = P at hO hlen2
           have HP : Hid _ := hP
           clear hP hO2 hB2 hb2
           unfold Own at hO
           obtain ⟨q7, q6, q5, q4, q3, q2, q1, q0⟩ := hbc
           have hj' : j = 0 ∨ j = 1 ∨ j = 2 ∨ j = 3 ∨ j = 4 ∨ j = 5 ∨ j = 6 ∨ j = 7 := by omega
           rcases hj' with rfl | rfl | rfl | rfl | rfl | rfl | rfl | rfl
           · go_wp2_with (at_builtin; refine wpList_append_own _ rfl (.tmp 23) (.tmp 31) 93 rfl base 5 i0 (.int .u8 0) 1 1 Tryz.underlying93 hi hz0 hz1 hz2 rfl (by decide) _ _ _ rfl (hO.alloc _) ⟨wr.heap.size, 0, none⟩ 1 1 _ rfl rfl (cell_one_new _ _ _) ?c2 ?c3 ?c4 ?c5 ?_)
             case c2 => intro u hu; simp at hu; subst hu; rfl
             case c3 => unfold maxLen; omega
             case c4 => omega
             case c5 => simp; omega
             · intro v' w1 hown1 hgrow _
               have hO2 := Own.snoc (sg (bitOf c 7)) rfl hown1
               have hB2 := (hB.alloc hbr _).grown hgrow (by simp; omega) (Own.block hO)
               have hb2 : base <= w1.heap.size := by have := hB2.size; rw [HBs.out]; exact this
               clear hown1 hgrow hO hB
               go_wp2
               go_roundw
               case rel => exact ⟨1, by omega, by go_num, by rw [<- HP.out] at hO2; simpa [eight, sgs] using hO2, hB2, hb2⟩
               case measure => simp [intOf]
           · go_wp2_with (at_builtin; refine wpList_append_own _ rfl (.tmp 23) (.tmp 31) 93 rfl base 5 i0 (.int .u8 0) 1 1 Tryz.underlying93 hi hz0 hz1 hz2 rfl (by decide) _ _ _ rfl (hO.alloc _) ⟨wr.heap.size, 0, none⟩ 1 1 _ rfl rfl (cell_one_new _ _ _) ?c2 ?c3 ?c4 ?c5 ?_)
             case c2 => intro u hu; simp at hu; subst hu; rfl
             case c3 => unfold maxLen; omega
             case c4 => omega
             case c5 => simp; omega
             · intro v' w1 hown1 hgrow _
               have hO2 := Own.snoc (sg (bitOf c 6)) rfl hown1
               have hB2 := (hB.alloc hbr _).grown hgrow (by simp; omega) (Own.block hO)
               have hb2 : base <= w1.heap.size := by have := hB2.size; rw [HBs.out]; exact this
               clear hown1 hgrow hO hB
               go_wp2
               go_roundw
               case rel => exact ⟨2, by omega, by go_num, by rw [<- HP.out] at hO2; simpa [eight, sgs] using hO2, hB2, hb2⟩
               case measure => simp [intOf]
           · go_wp2_with (at_builtin; refine wpList_append_own _ rfl (.tmp 23) (.tmp 31) 93 rfl base 5 i0 (.int .u8 0) 1 1 Tryz.underlying93 hi hz0 hz1 hz2 rfl (by decide) _ _ _ rfl (hO.alloc _) ⟨wr.heap.size, 0, none⟩ 1 1 _ rfl rfl (cell_one_new _ _ _) ?c2 ?c3 ?c4 ?c5 ?_)
             case c2 => intro u hu; simp at hu; subst hu; rfl
             case c3 => unfold maxLen; omega
             case c4 => omega
             case c5 => simp; omega
             · intro v' w1 hown1 hgrow _
               have hO2 := Own.snoc (sg (bitOf c 5)) rfl hown1
               have hB2 := (hB.alloc hbr _).grown hgrow (by simp; omega) (Own.block hO)
               have hb2 : base <= w1.heap.size := by have := hB2.size; rw [HBs.out]; exact this
               clear hown1 hgrow hO hB
               go_wp2
               go_roundw
               case rel => exact ⟨3, by omega, by go_num, by rw [<- HP.out] at hO2; simpa [eight, sgs] using hO2, hB2, hb2⟩
               case measure => simp [intOf]
           · go_wp2_with (at_builtin; refine wpList_append_own _ rfl (.tmp 23) (.tmp 31) 93 rfl base 5 i0 (.int .u8 0) 1 1 Tryz.underlying93 hi hz0 hz1 hz2 rfl (by decide) _ _ _ rfl (hO.alloc _) ⟨wr.heap.size, 0, none⟩ 1 1 _ rfl rfl (cell_one_new _ _ _) ?c2 ?c3 ?c4 ?c5 ?_)
             case c2 => intro u hu; simp at hu; subst hu; rfl
             case c3 => unfold maxLen; omega
             case c4 => omega
             case c5 => simp; omega
             · intro v' w1 hown1 hgrow _
               have hO2 := Own.snoc (sg (bitOf c 4)) rfl hown1
               have hB2 := (hB.alloc hbr _).grown hgrow (by simp; omega) (Own.block hO)
               have hb2 : base <= w1.heap.size := by have := hB2.size; rw [HBs.out]; exact this
               clear hown1 hgrow hO hB
               go_wp2
               go_roundw
               case rel => exact ⟨4, by omega, by go_num, by rw [<- HP.out] at hO2; simpa [eight, sgs] using hO2, hB2, hb2⟩
               case measure => simp [intOf]
           · go_wp2_with (at_builtin; refine wpList_append_own _ rfl (.tmp 23) (.tmp 31) 93 rfl base 5 i0 (.int .u8 0) 1 1 Tryz.underlying93 hi hz0 hz1 hz2 rfl (by decide) _ _ _ rfl (hO.alloc _) ⟨wr.heap.size, 0, none⟩ 1 1 _ rfl rfl (cell_one_new _ _ _) ?c2 ?c3 ?c4 ?c5 ?_)
             case c2 => intro u hu; simp at hu; subst hu; rfl
             case c3 => unfold maxLen; omega
             case c4 => omega
             case c5 => simp; omega
             · intro v' w1 hown1 hgrow _
               have hO2 := Own.snoc (sg (bitOf c 3)) rfl hown1
               have hB2 := (hB.alloc hbr _).grown hgrow (by simp; omega) (Own.block hO)
               have hb2 : base <= w1.heap.size := by have := hB2.size; rw [HBs.out]; exact this
               clear hown1 hgrow hO hB
               go_wp2
               go_roundw
               case rel => exact ⟨5, by omega, by go_num, by rw [<- HP.out] at hO2; simpa [eight, sgs] using hO2, hB2, hb2⟩
               case measure => simp [intOf]
           · go_wp2_with (at_builtin; refine wpList_append_own _ rfl (.tmp 23) (.tmp 31) 93 rfl base 5 i0 (.int .u8 0) 1 1 Tryz.underlying93 hi hz0 hz1 hz2 rfl (by decide) _ _ _ rfl (hO.alloc _) ⟨wr.heap.size, 0, none⟩ 1 1 _ rfl rfl (cell_one_new _ _ _) ?c2 ?c3 ?c4 ?c5 ?_)
             case c2 => intro u hu; simp at hu; subst hu; rfl
             case c3 => unfold maxLen; omega
             case c4 => omega
             case c5 => simp; omega
             · intro v' w1 hown1 hgrow _
               have hO2 := Own.snoc (sg (bitOf c 2)) rfl hown1
               have hB2 := (hB.alloc hbr _).grown hgrow (by simp; omega) (Own.block hO)
               have hb2 : base <= w1.heap.size := by have := hB2.size; rw [HBs.out]; exact this
               clear hown1 hgrow hO hB
               go_wp2
               go_roundw
               case rel => exact ⟨6, by omega, by go_num, by rw [<- HP.out] at hO2; simpa [eight, sgs] using hO2, hB2, hb2⟩
               case measure => simp [intOf]
           · go_wp2_with (at_builtin; refine wpList_append_own _ rfl (.tmp 23) (.tmp 31) 93 rfl base 5 i0 (.int .u8 0) 1 1 Tryz.underlying93 hi hz0 hz1 hz2 rfl (by decide) _ _ _ rfl (hO.alloc _) ⟨wr.heap.size, 0, none⟩ 1 1 _ rfl rfl (cell_one_new _ _ _) ?c2 ?c3 ?c4 ?c5 ?_)
             case c2 => intro u hu; simp at hu; subst hu; rfl
             case c3 => unfold maxLen; omega
             case c4 => omega
             case c5 => simp; omega
             · intro v' w1 hown1 hgrow _
               have hO2 := Own.snoc (sg (bitOf c 1)) rfl hown1
               have hB2 := (hB.alloc hbr _).grown hgrow (by simp; omega) (Own.block hO)
               have hb2 : base <= w1.heap.size := by have := hB2.size; rw [HBs.out]; exact this
               clear hown1 hgrow hO hB
               go_wp2
               go_roundw
               case rel => exact ⟨7, by omega, by go_num, by rw [<- HP.out] at hO2; simpa [eight, sgs] using hO2, hB2, hb2⟩
               case measure => simp [intOf]
           · go_wp2_with (at_builtin; refine wpList_append_own _ rfl (.tmp 23) (.tmp 31) 93 rfl base 5 i0 (.int .u8 0) 1 1 Tryz.underlying93 hi hz0 hz1 hz2 rfl (by decide) _ _ _ rfl (hO.alloc _) ⟨wr.heap.size, 0, none⟩ 1 1 _ rfl rfl (cell_one_new _ _ _) ?c2 ?c3 ?c4 ?c5 ?_)
             case c2 => intro u hu; simp at hu; subst hu; rfl
             case c3 => unfold maxLen; omega
             case c4 => omega
             case c5 => simp; omega
             · intro v' w1 hown1 hgrow _
               have hO2 := Own.snoc (sg (bitOf c 0)) rfl hown1
               have hB2 := (hB.alloc hbr _).grown hgrow (by simp; omega) (Own.block hO)
               have hb2 : base <= w1.heap.size := by have := hB2.size; rw [HBs.out]; exact this
               clear hown1 hgrow hO hB
               go_wp2
               go_roundw
               case rel => exact ⟨8, by omega, by go_num, by rw [<- HP.out] at hO2; simpa [eight, sgs] using hO2, hB2, hb2⟩
               case measure => simp [intOf]
         · obtain rfl : j = 8 := by omega
           clear hO2 hB2 hb2
           go_wp2
           go_roundw
           case rel =>
             refine ⟨k + 1, by omega, by go_num, ?_, hB, hbr⟩
             have e1 : l.take (k + 1) = l.take k ++ [c] := by rw [List.take_add_one, List.getElem?_eq_getElem hk2, HC.out]; rfl
             rw [<- HL.out] at hO
             rw [e1, kbs_append, <- sgs_append]
             simpa [kbs, eight, sgs] using hO
           case measure => simp [intOf]; omega
   · obtain rfl : k = n := by omega
     have hlen : (sgs (kbs (l.take k))).length <= 40 := by rw [sgs_length, kbs_length, List.length_take]; omega
     have hall : l.take k = l := by rw [List.take_of_length_le (by omega)]
     rw [hall] at hO hlen
     generalize hL : sgs (kbs l) = L at hO hlen
     have HL : Hid _ := hL
     clear hL
     unfold Own at hO
     have hd : decide ((k : Int) < (k : Int)) = false := decide_eq_false (by omega)
     go_wp2_with (at_builtin; refine wpList_append_own _ rfl (.tmp 34) (.tmp 35) 93 rfl base 5 i0 (.int .u8 0) 1 1 Tryz.underlying93 hi hz0 hz1 hz2 rfl (by decide) _ _ _ rfl (hO.alloc _) ⟨wr.heap.size, 0, none⟩ 1 1 _ rfl rfl (cell_one_new _ _ _) ?c2 ?c3 ?c4 ?c5 ?_)
     case c2 => intro u hu; simp at hu; subst hu; rfl
     case c3 => unfold maxLen; omega
     case c4 => omega
     case c5 => simp; omega
     · intro v' w1 hown1 hgrow _
       have hO2 := Own.snoc (sg false) rfl hown1
       have hB2 := (hB.alloc hbr _).grown hgrow (by simp; omega) (Own.block hO)
       clear hown1 hgrow hO hB
       have hcv := Own.run hO2 (by simp)
       go_wp2
       go_ret
       have e : Tw.S (L ++ [sg false]) = str (kb l) := by rw [<- HL.out, <- S_sgs]; simp [kb, sgs]
       exact ⟨congrArg (fun x => Ending.returned (Value.string x)) e, by rw [<- HBs.out]; exact hB2⟩
theorem bits_any (key : ByteArray) (w : World) (hn : key.size <= 4) :
   Calls Tryz.prog 32 #[.string key] w fun e w' => e = .returned (.string (str (kb key.data.toList))) /\ Below w.heap.size w w' :=
 bits_raw key key.data.toList key.size w rfl rfl (fun k h => ⟨h, rfl⟩) hn
def val : Bits -> Nat
 | [] => 0
 | b :: q => b.toNat * 2 ^ q.length + val q
def valT (q : Bits) (k : Nat) : Nat := val (q.take k)
theorem val_snoc (q : Bits) (b : Bool) : val (q ++ [b]) = 2 * val q + b.toNat := by
 induction q with
 | nil => simp [val]
 | cons a q ih =>
   simp only [List.cons_append, val, ih, List.length_append, List.length_cons, List.length_nil, Nat.zero_add, Nat.pow_succ]
   cases a <;> simp only [Bool.toNat_true, Bool.toNat_false, Nat.one_mul, Nat.zero_mul] <;> omega
theorem val_lt (q : Bits) : val q < 2 ^ q.length := by
 induction q with
 | nil => simp [val]
 | cons a q ih =>
   simp only [val, List.length_cons, Nat.pow_succ]
   have : a.toNat <= 1 := by cases a <;> decide
   have : a.toNat * 2 ^ q.length <= 1 * 2 ^ q.length := Nat.mul_le_mul_right _ this
   omega
theorem valT_succ (q : Bits) (k : Nat) (h : k < q.length) : valT q (k + 1) = 2 * valT q k + (q.getD k false).toNat := by
 unfold valT
 rw [List.take_add_one, List.getElem?_eq_getElem h, Option.toList_some, val_snoc, List.getD_eq_getElem?_getD, List.getElem?_eq_getElem h]
 rfl
theorem valT_lt (q : Bits) (k : Nat) : valT q k < 2 ^ k := by
 have h := val_lt (q.take k)
 exact Nat.lt_of_lt_of_le h (Nat.pow_le_pow_right (by decide) (List.length_take_le _ _))
theorem toNat_bit (n : Nat) : (n % 2 == 1).toNat = n % 2 := by
 rcases Nat.mod_two_eq_zero_or_one n with e | e <;> rw [e] <;> rfl
theorem val_eight (c : UInt8) : val (eight c) = c.toNat := by
 have h := eight_nat c.toNat c.toNat_lt
 simp only [eight, val, bitOf, toNat_bit, List.length_cons, List.length_nil]
 simp only [Nat.reducePow, Nat.reduceAdd] at h ⊢
 omega
set_option maxRecDepth 20000 in
set_option maxHeartbeats 4000000 in
theorem single_raw (s : ByteArray) (q : Bits) (w : World) (hs : s.size = 8) (hq : q.length = 8) (hg : ∀ k (h : k < s.size), (s[k].toNat : Int) = 48 + ((q.getD k false).toNat : Int)) :
   Calls Tryz.prog 67 #[.string s] w fun e w' => e = .returned (.int .u8 (val q)) /\ w' = w := by
 have HG : Hid _ := hg
 clear hg
 go_enter Tryz.func67, Tryz.ntmps67
 go_wp2
 go_loopw [3, 7] (fun b i wr => ∃ k : Nat, k <= 8 /\ i = .int .i64 k /\ b = .int .u8 (valT q k) /\ wr = w) (fun _ i _ => 8 - (intOf i).toNat)
 case atStart => exact ⟨0, by omega, rfl, rfl, rfl⟩
 case round =>
   obtain ⟨k, hk, rfl, rfl, rfl⟩ := hrel
   by_cases hlt : k < 8
   · have hv := valT_lt q k
     have hp : 2 ^ k <= 128 := Nat.pow_le_pow_right (n := 2) (by decide) (show k <= 7 by omega)
     have hs1 := valT_succ q k (by omega)
     obtain ⟨x, hx⟩ : ∃ x, x = (q.getD k false).toNat := ⟨_, rfl⟩
     have hx1 : x <= 1 := by rw [hx]; cases q.getD k false <;> decide
     have hgk : (s[k].toNat : Int) = 48 + (x : Int) := by rw [hx]; exact HG.out k (by omega)
     rw [<- hx] at hs1
     have HX : Hid _ := hx
     clear hx
     generalize hV : valT q k = V at hs1 hv
     have hVb : V < 128 := by omega
     have hk8 : k < s.size := by omega
     have hor : Go.bits .or .u8 (2 * (V : Int)) (x : Int) = ((2 * V + x : Nat) : Int) := by
       have := u8_or_nat (2 * V) x (by omega) (by omega)
       rw [show (2 * (V : Int)) = ((2 * V : Nat) : Int) by omega, this]
       congr 1
       have t := Nat.two_pow_add_eq_or_of_lt (i := 1) (b := x) (by omega) V
       rw [Nat.pow_one] at t
       exact t.symm
     have ho1 : Go.bits .or .u8 ((V : Int) * 2) (x : Int) = ((2 * V + x : Nat) : Int) := by rw [Int.mul_comm]; exact hor
     go_wp2
     go_roundw
     case rel =>
       refine ⟨k + 1, by omega, by go_num, ?_, trivial⟩
       rw [hs1, <- ho1, show (48 + (x : Int) - 48) = (x : Int) by omega]
     case measure => simp [intOf]; omega
   · obtain rfl : k = 8 := by omega
     go_wp2
     go_ret
     refine ⟨?_, rfl⟩
     have e : valT q 8 = val q := by unfold valT; rw [List.take_of_length_le (by omega)]
     rw [<- e]
     rfl
theorem single_any (c : UInt8) (w : World) : Calls Tryz.prog 67 #[.string (str (eight c))] w fun e w' => e = .returned (.int .u8 c.toNat) /\ w' = w := by
 have h := single_raw (str (eight c)) (eight c) w (by rw [str_size]; rfl) rfl (fun k h => by
   rw [str_get, sg_nat]
   rw [List.getD_eq_getElem?_getD, List.getElem?_eq_getElem (by rw [str_size] at h; exact h), Option.getD_some]
   exact Int.natCast_add _ _)
 rw [val_eight] at h
 exact h
set_option maxRecDepth 20000 in
set_option maxHeartbeats 4000000 in
theorem key_any (l : List UInt8) (w : World) (h0 : l ≠ []) (hn : l.length <= 4) :
   Calls Tryz.prog 51 #[.string (str (kb l))] w fun e w' => e = .returned (.string (Tw.S l)) /\ Below w.heap.size w w' := by
 obtain ⟨i0, hi, hz0, hz1, hz2⟩ := info_parts u8info
 have HL0 : Hid _ := h0
 clear h0
 obtain ⟨base, hbase⟩ : ∃ x, x = w.heap.size := ⟨_, rfl⟩
 have hB0 : Below base w w := Below.refl _ _
 have hbb : base <= w.heap.size := by omega
 have HBs : Hid (base = w.heap.size) := hbase
 clear hbase
 go_enter Tryz.func51, Tryz.ntmps51
 go_wp2
 go_loopw [0, 3] (fun s v wr => ∃ done rest : List UInt8, done ++ rest = l /\ s = .string (str (kb rest)) /\ Own base wr v done /\ Below base w wr /\ base <= wr.heap.size) (fun s _ _ => strSize s)
 case atStart => exact ⟨[], l, rfl, rfl, ⟨by simp [cellsB], Or.inl ⟨rfl, rfl⟩⟩, hB0, hbb⟩
 case round =>
   obtain ⟨done, rest, hdr, rfl, hO, hB, hbr⟩ := hrel
   have hlen : done.length <= 4 := by rw [<- hdr] at hn; simp at hn; omega
   have hrl : rest.length <= 4 := by rw [<- hdr] at hn; simp at hn; omega
   cases rest with
   | nil =>
     rw [List.append_nil] at hdr
     have HD : Hid _ := hdr
     have hsz : (str (kb [])).size = 1 := by rw [str_size]; rfl
     generalize str (kb []) = s0 at hsz
     have hne : done ≠ [] := by rw [hdr]; exact HL0.out
     have hcv := Own.run hO hne
     clear hdr hne
     go_wp2
     go_ret
     exact ⟨by rw [<- HD.out]; rfl, by rw [<- HBs.out]; exact hB⟩
   | cons c r =>
     have hkb : kb (c :: r) = [true] ++ (eight c ++ kb r) := by simp [kb, kbs]
     have hsz : (str (kb (c :: r))).size = 9 * r.length + 10 := by rw [str_size, kb_length, List.length_cons]; omega
     have hx1 : (str (kb (c :: r))).extract 1 9 = str (eight c) := by
       have e1 : (str (kb (c :: r))).extract 0 9 = str ([true] ++ eight c) := by rw [str_take, hkb]; rfl
       have e2 : (str (kb (c :: r))).extract 1 9 = ((str (kb (c :: r))).extract 0 9).extract 1 9 := by
         rw [ByteArray.extract_extract]; simp
       rw [e2, e1]
       exact str_off (q := [true]) (r := eight c) rfl rfl
     have hx2 : (str (kb (c :: r))).extract 9 (9 * r.length + 10) = str (kb r) := by
       rw [hkb, <- List.append_assoc]
       exact str_off rfl (by rw [kb_length]; simp [eight]; omega)
     obtain ⟨m, hm⟩ : ∃ m, m = r.length := ⟨_, rfl⟩
     have hm4 : m <= 4 := by simp at hrl; omega
     rw [<- hm] at hsz hx2
     have HM : Hid _ := hm
     have HD : Hid _ := hdr
     have hsg := single_any c
     obtain ⟨E, hE⟩ : ∃ E, E = str (eight c) := ⟨_, rfl⟩
     obtain ⟨R0, hR0⟩ : ∃ R0, R0 = str (kb r) := ⟨_, rfl⟩
     rw [<- hE] at hsg hx1
     rw [<- hR0] at hx2
     have HE : Hid _ := hE
     have HR : Hid _ := hR0
     generalize hs0 : str (kb (c :: r)) = s0 at hsz hx1 hx2
     have HS : Hid _ := hs0
     clear hm hdr hE hR0 hs0 hkb
     have i1 : (1 : Int) <= 9 := by decide
     have i2 : (9 : Int) <= ((9 * m + 10 : Nat) : Int) := by omega
     have i3 : (9 : Int) <= 9 * (m : Int) + 10 := by omega
     have i4 : (9 : Int) < 9 * (m : Int) + 10 := by omega
     have i5 : (9 : Int) < ((9 * m + 10 : Nat) : Int) := by omega
     unfold Own at hO
     go_wp2_with (first
       | (go_at_call 67; refine (hsg _).mono ?_; rintro e w' ⟨rfl, hw⟩; have hw2 := hw.symm; subst hw2; clear hw)
       | (at_builtin; refine wpList_append_own _ rfl (.tmp 9) (.tmp 13) 93 rfl base 5 i0 (.int .u8 0) 1 1 Tryz.underlying93 hi hz0 hz1 hz2 rfl (by decide) _ _ _ rfl (hO.alloc _) ⟨wr.heap.size, 0, none⟩ 1 1 _ rfl rfl (cell_one_new _ _ _) ?c2 ?c3 ?c4 ?c5 ?_))
     case c2 => intro u hu; simp at hu; subst hu; rfl
     case c3 => unfold maxLen; omega
     case c4 => omega
     case c5 => simp; omega
     · intro v' w1 hown1 hgrow _
       have hO2 := Own.snoc c rfl hown1
       have hB2 := (hB.alloc hbr _).grown hgrow (by simp; omega) (Own.block hO)
       have hb2 : base <= w1.heap.size := by have := hB2.size; rw [HBs.out]; exact this
       clear hown1 hgrow hO hB
       go_wp2
       go_roundw
       case rel => exact ⟨done ++ [c], r, by rw [<- HD.out]; simp, by rw [HR.out], hO2, hB2, hb2⟩
       case measure =>
         show strSize (Value.string R0) < strSize (Value.string s0)
         simp only [strSize]
         rw [hsz, HR.out, str_size, kb_length, HM.out]
         omega
end Go.Proofs.YtddcbeeldjjmeaaGreat
namespace Go.Proofs.YtddcbeeldjjmeaaGreat
open Go Go.RowKit Go.Nest Go.Tm
set_option linter.unusedVariables false
set_option linter.unusedSimpArgs false
set_option maxHeartbeats 2000000 in
theorem within_any (n lo hi : Int) (w : World) :
   Calls Tryz.prog 39 #[.int .i64 n, .int .i64 lo, .int .i64 hi] w fun e w' => e = .returned (.bool (decide (lo <= n /\ n <= hi))) /\ w' = w := by
 have key : (max n lo = min n hi) ↔ (lo <= n /\ n <= hi) := by omega
 have key2 : decide (max n lo = min n hi) = decide (lo <= n /\ n <= hi) := decide_eq_decide.2 key
 have key3 : (max n lo == min n hi) = decide (lo <= n /\ n <= hi) := by rw [<- key2]; rfl
 go_enter Tryz.func39, Tryz.ntmps39
 go_wp2
 go_ret
 exact ⟨congrArg (fun x => Ending.returned (.bool x)) (by simp), rfl⟩
set_option maxHeartbeats 2000000 in
theorem keyIn_any (n : Int) (w : World) :
   Calls Tryz.prog 22 #[.int .i64 n] w fun e w' => e = .returned (.bool (decide (1 <= n /\ n <= 4))) /\ w' = w := by
 have h := fun w => within_any n 1 4 w
 generalize decide (1 <= n /\ n <= 4) = u at h ⊢
 go_enter Tryz.func22, Tryz.ntmps22
 go_wp2_with (go_at_call 39; refine (h _).mono ?_; rintro e w' ⟨rfl, rfl⟩)
 go_ret
 exact ⟨rfl, rfl⟩
set_option maxHeartbeats 2000000 in
theorem lengthIn_any (n : Int) (w : World) :
   Calls Tryz.prog 30 #[.int .i64 n] w fun e w' => e = .returned (.bool (decide (0 <= n /\ n <= 20))) /\ w' = w := by
 have h := fun w => within_any n 0 20 w
 generalize decide (0 <= n /\ n <= 20) = u at h ⊢
 go_enter Tryz.func30, Tryz.ntmps30
 go_wp2_with (go_at_call 39; refine (h _).mono ?_; rintro e w' ⟨rfl, rfl⟩)
 go_ret
 exact ⟨rfl, rfl⟩
set_option maxHeartbeats 2000000 in
theorem widthIn_any (n : Int) (w : World) :
   Calls Tryz.prog 28 #[.int .i64 n] w fun e w' => e = .returned (.bool (decide (1 <= n /\ n <= 32))) /\ w' = w := by
 have h := fun w => within_any n 1 32 w
 generalize decide (1 <= n /\ n <= 32) = u at h ⊢
 go_enter Tryz.func28, Tryz.ntmps28
 go_wp2_with (go_at_call 39; refine (h _).mono ?_; rintro e w' ⟨rfl, rfl⟩)
 go_ret
 exact ⟨rfl, rfl⟩
set_option maxHeartbeats 2000000 in
theorem versionIn_any (n last : Int) (w : World) :
   Calls Tryz.prog 41 #[.int .i64 n, .int .i64 last] w fun e w' => e = .returned (.bool (decide (1 <= n /\ n <= last))) /\ w' = w := by
 have h := fun w => within_any n 1 last w
 generalize decide (1 <= n /\ n <= last) = u at h ⊢
 go_enter Tryz.func41, Tryz.ntmps41
 go_wp2_with (go_at_call 39; refine (h _).mono ?_; rintro e w' ⟨rfl, rfl⟩)
 go_ret
 exact ⟨rfl, rfl⟩
end Go.Proofs.YtddcbeeldjjmeaaGreat
namespace Go.Proofs.YtddcbeeldjjmeaaGreat
open Go Go.RowKit Go.Nest Go.Tm Go.Proofs.YtddcbeeldjjmeaaGreat.Tw
set_option linter.unusedVariables false
set_option linter.unusedSimpArgs false
def prC (u : ByteArray × ByteArray) : List Value := [.string u.1, .string u.2]
def prCs (us : List (ByteArray × ByteArray)) : List Value := (us.map prC).flatten
theorem prCs_snoc (us : List (ByteArray × ByteArray)) (u : ByteArray × ByteArray) : prCs (us ++ [u]) = prCs us ++ prC u := by simp [prCs]
theorem prCs_len (us : List (ByteArray × ByteArray)) : (prCs us).length = us.length * 2 := by
 induction us with
 | nil => rfl
 | cons u us ih => unfold prCs at ih ⊢; simp [prC, ih]; omega
def OwnP (base : Nat) (w : World) (v : Value) (ps : List (ByteArray × ByteArray)) : Prop := w.ownsRow base 51 2 v ps.length (prCs ps)
theorem OwnP.nil (base : Nat) (w : World) : OwnP base w (.slice none 0 0) [] := ⟨by simp [prCs], Or.inl ⟨rfl, rfl⟩⟩
theorem OwnP.block {base : Nat} {w : World} {v : Value} {l : List (ByteArray × ByteArray)} (h : OwnP base w v l) : ∀ k, v.ownBlock = some k -> base <= k := by
 intro k hk
 obtain ⟨_, ⟨rfl, _⟩ | ⟨g, cap, cur, rfl, hg, _⟩⟩ := h
 · simp [Value.ownBlock] at hk
 · simp [Value.ownBlock] at hk; omega
theorem OwnP.below {base : Nat} {w w' : World} {v : Value} {l : List (ByteArray × ByteArray)} (h : OwnP base w v l) (B : Below w.heap.size w w') : OwnP base w' v l := by
 obtain ⟨h1, ⟨rfl, h2⟩ | ⟨g, cap, cur, rfl, hg, hh, hr⟩⟩ := h
 · exact ⟨h1, .inl ⟨rfl, h2⟩⟩
 · refine ⟨h1, .inr ⟨g, cap, cur, rfl, hg, ?_, hr⟩⟩
   rw [B.block g (Array.getElem?_eq_some_iff.1 hh).1]; exact hh
theorem OwnP.drewN {base : Nat} {w : World} {v : Value} {l : List (ByteArray × ByteArray)} (h : OwnP base w v l) (n : Nat) : OwnP base (w.drewN n) v l := h
theorem pinfo : (Tryz.prog.info? 51).map (fun i => (i.zero, i.size, i.bytes)) = some (some (.agg #[.string ⟨#[]⟩, .string ⟨#[]⟩]), 2, 32) := by kernel_rfl
set_option maxRecDepth 20000 in
set_option maxHeartbeats 4000000 in
theorem walk_leaf {w : World} {b base : Nat} {A0 P0 V0 K0 : ByteArray} {l r : Option Addr} {d : Int} {sl : Bool} {v : Value} {ps : List (ByteArray × ByteArray)} (hN : NodeAt ndT w b 0 P0 V0 l r d sl) (hb : b < base) (hbase : base <= w.heap.size)
   (hA : A0.size <= 1000) (hP : P0.size <= 1000) (hps : ps.length <= 100000) (hO : OwnP base w v ps)
   (hkey : ∀ w, Calls Tryz.prog 51 #[.string (A0 ++ P0)] w fun e w' => e = .returned (.string K0) /\ Below w.heap.size w w')
   (hcl : ∀ w, Calls Tryz.prog 24 #[.string V0] w fun e w' => e = .returned (.string V0) /\ Below w.heap.size w w') :
   Calls Tryz.prog 42 #[.pointer (some ⟨b, 0, none⟩), .string A0, v] w fun e w' => ∃ v', e = .returned v' /\ OwnP base w' v' (ps ++ [(K0, V0)]) /\ Below base w w' := by
 obtain ⟨h0, h1, h2, h3, h4, h5⟩ := NodeAt.cells hN
 have hbw := NodeAt.lt hN
 obtain ⟨i0, hi, hz0, hz1, hz2⟩ := info_parts pinfo
 have f1 : ¬ (9223372036854775807 < A0.size + P0.size) := by omega
 have f2 : A0.size + P0.size <= 9223372036854775807 := by omega
 have hbk := hO.block
 have hne : some b ≠ v.ownBlock := fun e => by have := hbk _ e.symm; omega
 have hA1 : ∀ n : Nat, (w.drewN n).cell? ⟨b, 2, none⟩ = some (.string V0) := fun n => h2
 have hA2 : w.drew.cell? ⟨b, 2, none⟩ = some (.string V0) := h2
 go_enter Tryz.func42, Tryz.ntmps42
 go_wp2_with fail
 go_region_held3 (fun w' => w'.cell? ⟨b, 2, none⟩ = some (.string V0)) (first | go_keep | (rw [hgrow.cell_far _ (by simp; omega) hne]; assumption) | (simp [hgrow.cell_far ⟨b, 2, none⟩ (by simp; omega) hne, *]))
   (first
   | (go_at_call 51; refine (hkey _).mono ?_; rintro e w2 ⟨rfl, hB2⟩; have hO2 := OwnP.below (w := w.drew) hO hB2; have hy2 : w.heap.size <= w2.heap.size := hB2.size; have hc2 := hB2.cell (p := ⟨b, 2, none⟩) (by show b < _; exact hbw))
   | (go_at_call 24; refine (hcl _).mono ?_; rintro e w3 ⟨rfl, hB3⟩; have hO3 := OwnP.below hO2 hB3; have hy3 : w2.heap.size <= w3.heap.size := hB3.size; have hc3 := hB3.cell (p := ⟨b, 2, none⟩) (by show b < _; have hzz : w.heap.size <= w2.heap.size := hB2.size; omega))
   | (unfold OwnP at hO3; refine step_append_lies _ (by rfl) _ _ _ (by rfl) base 51 i0 _ 2 32 Tryz.underlying31 hi hz0 hz1 hz2 rfl (by decide) _ ps.length (prCs ps) (by rfl) (World.ownsRow.alloc (w := w3) hO3 _) ⟨w3.heap.size, 0, none⟩ 1 1 _ (by rfl) (by rfl) (World.news_of_block (heap_alloc_new w3 _)) (by intro u hu; simp at hu; rcases hu with rfl | rfl <;> rfl) (by decide) (by unfold maxLen; omega) (by omega) (by simp; omega) _ rfl ?_; intro g cap w1 hown1 hgrow hat hlt))
 have hb3 : Below base w w3 := (below_mono (below_mono (below_drewN w.heap.size w 1) hB2) hB3).mono hbase
 have hB1 : Below base w w1 := (hb3.alloc (by omega) _).grown hgrow (by simp; omega) hbk
 have hO1 : OwnP base w1 (.slice (some ⟨g, 0, none⟩) (ps.length + 1) cap) (ps ++ [(K0, V0)]) := by
   unfold OwnP
   rw [prCs_snoc, List.length_append]
   exact hown1
 clear hown1 hgrow hat hlt hO hO2 hO3
 try simp only [Exit.inBlock, Exit.then]
 go_wp2_with fail
 go_ret
 exact ⟨_, rfl, hO1, hB1⟩
set_option maxRecDepth 20000 in
set_option maxHeartbeats 4000000 in
theorem walk_empty {w : World} {b : Nat} {A0 P0 V0 : ByteArray} {l r : Option Addr} {d : Int} {sl : Bool} {v : Value} (hN : NodeAt ndT w b 2 P0 V0 l r d sl) (hA : A0.size <= 1000) (hP : P0.size <= 1000) :
   Calls Tryz.prog 42 #[.pointer (some ⟨b, 0, none⟩), .string A0, v] w fun e w' => e = .returned v /\ w' = w := by
 obtain ⟨h0, h1, h2, h3, h4, h5⟩ := NodeAt.cells hN
 have hbw := NodeAt.lt hN
 have f1 : ¬ (9223372036854775807 < A0.size + P0.size) := by omega
 have f2 : A0.size + P0.size <= 9223372036854775807 := by omega
 go_enter Tryz.func42, Tryz.ntmps42
 go_wp2_with fail
 go_ret
 exact ⟨rfl, rfl⟩
set_option maxRecDepth 20000 in
set_option maxHeartbeats 4000000 in
theorem walk_branch {w : World} {b : Nat} {A0 P0 AP S0 S1 L0 L1 : ByteArray} {bl br : Nat} {d : Int} {sl : Bool} {v : Value} {R : Nat -> World -> Value -> Prop} (hN : NodeAt ndT w b 1 P0 noText (ptr bl) (ptr br) d sl)
   (hA : A0.size <= 1000) (hP : P0.size <= 1000) (hAP : A0 ++ P0 = AP) (hAs : AP.size <= 2000) (hS0 : S0.size = 1) (hS1 : S1.size = 1) (hL0 : AP ++ S0 = L0) (hL1 : AP ++ S1 = L1)
   (hs0 : ∀ w, Calls Tryz.prog 52 #[.int .i64 0] w fun e w' => e = .returned (.string S0) /\ w' = w)
   (hs1 : ∀ w, Calls Tryz.prog 52 #[.int .i64 1] w fun e w' => e = .returned (.string S1) /\ w' = w)
   (hR : R 0 w v)
   (hl : ∀ w v, R 0 w v -> Calls Tryz.prog 42 #[.pointer (some ⟨bl, 0, none⟩), .string L0, v] w fun e w' => ∃ v', e = .returned v' /\ R 1 w' v')
   (hr : ∀ w v, R 1 w v -> Calls Tryz.prog 42 #[.pointer (some ⟨br, 0, none⟩), .string L1, v] w fun e w' => ∃ v', e = .returned v' /\ R 2 w' v') :
   Calls Tryz.prog 42 #[.pointer (some ⟨b, 0, none⟩), .string A0, v] w fun e w' => ∃ v', e = .returned v' /\ R 2 w' v' := by
 obtain ⟨h0, h1, h2, h3, h4, h5⟩ := NodeAt.cells hN
 have hbw := NodeAt.lt hN
 have f1 : ¬ (9223372036854775807 < A0.size + P0.size) := by omega
 have f2 : A0.size + P0.size <= 9223372036854775807 := by omega
 have f3 : ¬ (9223372036854775807 < AP.size + 1) := by omega
 have f4 : AP.size < 9223372036854775807 := by omega
 have f5 : ¬ (9223372036854775807 <= AP.size) := by omega
 simp only [ptr] at h3 h4
 have hx0 : ∀ W : World, (Instr.index 87 (.agg #[.pointer (some ⟨bl, 0, none⟩), .pointer (some ⟨br, 0, none⟩)]) (.int .i64 0)).run Tryz.prog W = .ok (.pointer (some ⟨bl, 0, none⟩)) W := fun W => by rfl
 have hx1 : ∀ W : World, (Instr.index 87 (.agg #[.pointer (some ⟨bl, 0, none⟩), .pointer (some ⟨br, 0, none⟩)]) (.int .i64 1)).run Tryz.prog W = .ok (.pointer (some ⟨br, 0, none⟩)) W := fun W => by rfl
 go_enter Tryz.func42, Tryz.ntmps42
 go_wp2_with fail
 go_loopw [2, 39] (fun v i wr => (i = .int .i64 0 /\ R 0 wr v) ∨ (i = .int .i64 1 /\ R 1 wr v) ∨ (i = .int .i64 2 /\ R 2 wr v)) (fun _ i _ => 2 - (intOf i).toNat)
 case atStart => exact .inl ⟨rfl, hR⟩
 case round =>
   rcases hrel with ⟨rfl, hRk⟩ | ⟨rfl, hRk⟩ | ⟨rfl, hRk⟩
   · go_wp2_with (first
       | (go_at_call 52; refine (hs0 _).mono ?_; rintro e w' ⟨rfl, hw⟩; have hw2 := hw.symm; subst hw2; clear hw)
       | (go_at_call 42; refine (hl _ _ hRk).mono ?_; rintro e w2 ⟨v2, rfl, hR2⟩))
     go_roundw
     case rel => exact .inr (.inl ⟨by go_num, hR2⟩)
     case measure => simp [intOf]
   · go_wp2_with (first
       | (go_at_call 52; refine (hs1 _).mono ?_; rintro e w' ⟨rfl, hw⟩; have hw2 := hw.symm; subst hw2; clear hw)
       | (go_at_call 42; refine (hr _ _ hRk).mono ?_; rintro e w2 ⟨v2, rfl, hR2⟩))
     go_roundw
     case rel => exact .inr (.inr ⟨by go_num, hR2⟩)
     case measure => simp [intOf]
   · go_wp2_with fail
     go_ret
     exact ⟨_, rfl, hRk⟩
end Go.Proofs.YtddcbeeldjjmeaaGreat
namespace Go.Proofs.YtddcbeeldjjmeaaGreat
open Go Go.RowKit Go.Nest Go.Tm Go.Proofs.YtddcbeeldjjmeaaGreat.Tw Go.Shelf
set_option linter.unusedVariables false
set_option linter.unusedSimpArgs false
variable {dg : DG}
theorem clone_any (s : ByteArray) (w : World) (hs : s.size <= 281474976710656) :
   Calls Tryz.prog 24 #[.string s] w fun e w' => e = .returned (.string s) /\ Below w.heap.size w w' := by
 have hcon := Any.stringslite_Clone Tryz.lays316 s w hs
 change Calls Tryz.prog 40 _ _ (fun e w' => e = .returned (.string s) /\ Below w.heap.size w w') at hcon
 go_enter Tryz.func24, Tryz.ntmps24
 go_wp2_with (go_at_call 40; refine hcon.mono ?_; rintro e w' ⟨rfl, hb⟩)
 go_ret
 exact ⟨rfl, hb⟩
abbrev KV := List (List UInt8 × ByteArray)
def KV.bits (l : KV) : List (Bits × ByteArray) := l.map fun x => (kb x.1, x.2)
def KV.prs (l : KV) : List (ByteArray × ByteArray) := l.map fun x => (Tw.S x.1, x.2)
def KV.ok (l : KV) : Prop := ∀ x, x ∈ l -> x.1 ≠ [] /\ x.1.length <= 4 /\ x.2.size <= 1000000
theorem kv_split {l : KV} {a b : List (Bits × ByteArray)} (h : l.bits = a ++ b) : ∃ l1 l2 : KV, l = l1 ++ l2 /\ l1.bits = a /\ l2.bits = b := by
 obtain ⟨l1, l2, h1, h2, h3⟩ := List.map_eq_append_iff.1 h
 exact ⟨l1, l2, h1, h2, h3⟩
theorem walk_path {t : T ByteArray} {L : List (Bits × ByteArray)} (h : Rep L t) {above : Bits} {l : KV} (hw : t.walk above = l.bits) (hok : l.ok) (hne : t.isEmpty = false) : (above ++ t.path).length <= 40 := by
 rw [rep_walk h] at hw
 have hL : L ≠ [] := fun e => by
   have := (rep_isEmpty h).2 e
   rw [hne] at this; cases this
 obtain ⟨x, hx⟩ := rep_ne h hL
 obtain ⟨y, hy⟩ := rep_mem_path h x hx
 have hm : pre above x ∈ l.bits := hw ▸ List.mem_map.2 ⟨x, hx, rfl⟩
 obtain ⟨z, hz, e⟩ := List.mem_map.1 hm
 have h4 := (hok z hz).2.1
 have e1 := congrArg (fun p => p.1.length) e
 simp only [pre, kb_length, hy, List.length_append] at e1
 simp only [List.length_append]
 omega
theorem walk_any {w0 : World} : ∀ (t : T ByteArray) (above : Bits) (L : List (Bits × ByteArray)) (l : KV) (b : Nat), Rep L t -> t.walk above = l.bits -> l.ok -> TAt dg w0 t b -> above.length <= 100 ->
   ∀ (ps : List (ByteArray × ByteArray)) (v : Value) (w : World), Below w0.heap.size w0 w -> w0.heap.size <= w.heap.size -> OwnP w0.heap.size w v ps -> ps.length + l.length <= 50000 ->
   Calls Tryz.prog 42 #[.pointer (ptr b), .string (str above), v] w fun e w' => ∃ v', e = .returned v' /\ OwnP w0.heap.size w' v' (ps ++ l.prs) /\ Below w0.heap.size w0 w'
 | .empty, above, L, l, b, hr, hw, hok, hT, ha, ps, v, w, hB, hz, hO, hn => by
   have hl : l = [] := List.map_eq_nil_iff.1 hw.symm
   subst hl
   obtain ⟨_, d, s, h, _⟩ := TAt.below hT hB
   refine (walk_empty h (by rw [str_size]; omega) (by decide)).mono ?_
   rintro e w' ⟨rfl, rfl⟩
   exact ⟨_, rfl, by simpa [KV.prs] using hO, hB⟩
 | .leaf p x, above, L, l, b, hr, hw, hok, hT, ha, ps, v, w, hB, hz, hO, hn => by
   have hlt := TAt.lt hT
   have hpl := walk_path hr hw hok rfl
   obtain ⟨_, d, s, h, _⟩ := TAt.below hT hB
   obtain ⟨z, rfl, hz1⟩ : ∃ z, l = [z] /\ (kb z.1, z.2) = (above ++ p, x) := by
     cases l with
     | nil => cases hw
     | cons z l => cases l with
       | nil => exact ⟨z, rfl, by have := hw; simp only [T.walk, KV.bits, List.map_cons, List.map_nil, List.cons.injEq, and_true] at this; exact this.symm⟩
       | cons _ _ => have := congrArg List.length hw; simp [T.walk, KV.bits] at this
   obtain ⟨hk0, hk4, hv⟩ := hok z List.mem_cons_self
   have e1 : kb z.1 = above ++ p := congrArg Prod.fst hz1
   have e2 : z.2 = x := congrArg Prod.snd hz1
   subst e2
   simp only [T.path, List.length_append] at hpl
   refine (walk_leaf (K0 := Tw.S z.1) h hlt hz (by rw [str_size]; omega) (by show (str p).size <= _; rw [str_size]; omega) (by omega) hO (fun w1 => ?_) (fun w1 => clone_any _ w1 (by show z.2.size <= _; omega))).mono ?_
   · show Calls _ _ #[.string (str above ++ str p)] _ _
     rw [str_append, <- e1]
     exact key_any z.1 w1 hk0 hk4
   · rintro e w' ⟨v', rfl, h1, h2⟩
     exact ⟨v', rfl, h1, hB.trans h2⟩
 | .branch p tl tr, above, L, l, b, hr, hw, hok, hT, ha, ps, v, w, hB, hz, hO, hn => by
   have hpl := walk_path hr hw hok rfl
   cases hr with
   | @branch l0 l1 _ _ _ n0 n1 r0 r1 =>
     obtain ⟨_, bl, br, d, s, h, hTl, hTr, _⟩ := hT
     have h' := NodeAt.below h hB
     obtain ⟨la, lb, rfl, ea, eb⟩ := kv_split (l := l) hw.symm
     simp only [T.path, List.length_append] at hpl
     have hoka : KV.ok la := fun x hx => hok x (List.mem_append_left _ hx)
     have hokb : KV.ok lb := fun x hx => hok x (List.mem_append_right _ hx)
     have hnl : la.length + lb.length = (la ++ lb).length := by simp
     refine (walk_branch (A0 := str above) (P0 := str p) (AP := str (above ++ p)) (S0 := str [false]) (S1 := str [true]) (L0 := str (above ++ p ++ [false])) (L1 := str (above ++ p ++ [true]))
       (R := fun k w' v' => Below w0.heap.size w0 w' /\ w0.heap.size <= w'.heap.size /\ OwnP w0.heap.size w' v' (if k = 0 then ps else if k = 1 then ps ++ la.prs else ps ++ la.prs ++ lb.prs))
       h' (by rw [str_size]; omega) (by rw [str_size]; omega) (str_append _ _) (by rw [str_size]; simp; omega) (by rw [str_size]; rfl) (by rw [str_size]; rfl) (str_append _ _) (str_append _ _)
       (fun w1 => sign_any false w1) (fun w1 => sign_any true w1) ⟨hB, hz, hO⟩ ?_ ?_).mono ?_
     · rintro w1 v1 ⟨k1, k2, k3⟩
       refine (walk_any tl (above ++ p ++ [false]) l0 la bl r0 ea.symm hoka hTl (by simp; omega) ps v1 w1 k1 k2 k3 (by omega)).mono ?_
       rintro e w' ⟨v', rfl, g1, g2⟩
       exact ⟨v', rfl, g2, g2.size, g1⟩
     · rintro w1 v1 ⟨k1, k2, k3⟩
       refine (walk_any tr (above ++ p ++ [true]) l1 lb br r1 eb.symm hokb hTr (by simp; omega) (ps ++ la.prs) v1 w1 k1 k2 k3 (by simp [KV.prs]; omega)).mono ?_
       rintro e w' ⟨v', rfl, g1, g2⟩
       exact ⟨v', rfl, g2, g2.size, g1⟩
     · rintro e w' ⟨v', rfl, g1, g2, g3⟩
       refine ⟨v', rfl, ?_, g1⟩
       have : KV.prs (la ++ lb) = la.prs ++ lb.prs := by simp [KV.prs]
       rw [this, <- List.append_assoc]
       exact g3
end Go.Proofs.YtddcbeeldjjmeaaGreat
