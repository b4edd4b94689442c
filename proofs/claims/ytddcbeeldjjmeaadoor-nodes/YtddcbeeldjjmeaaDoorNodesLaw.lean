/- The law of nodes: whatever the node, whatever the bytes. -/
import Derived.Test.YtddcbeeldjjmeaaDoorRefR
import Derived.Test.YtddcbeeldjjmeaaDoorEncT
import Derived.Test.YtddcbeeldjjmeaaDoorDec
namespace Go.Proofs.YtddcbeeldjjmeaaDoor.Tw
open Go.RowKit Go.Proofs.YtddcbeeldjjmeaaDoor.Pu
set_option linter.unusedVariables false
set_option linter.unusedSimpArgs false

/-- What is answered when a node is to be written, and when bytes are to be read. -/
def encB (n : Nd) : List UInt8 := match encN n with | some b => b | none => []
def encE (n : Nd) : Int := match encN n with | some _ => 0 | none => 3
def decV (l : List UInt8) : Nd := match decN l with | some n => n | none => zeroN
def decE (l : List UInt8) : Int := match decN l with | some _ => 0 | none => 4

theorem tenc_any (A : Nat → Addr) (B : Nat) (n : Nd) (w : World) (hS : Sents A B w) (hpl : n.path.length ≤ 9223372036854775807) :
    Calls Tryd.prog 5 #[nodeV n] w fun e w' => e = .returned (.tuple #[.string (S (encB n)), .int .i64 (encE n)]) ∧ Below w.heap.size w w' := by
  unfold encB encE
  cases h : encN n with
  | some b => exact tenc_ok n b w h
  | none => exact tenc_no A B n w hS h hpl
theorem renc_any (n : Nd) (w : World) (hpl : n.path.length ≤ 9223372036854775807) :
    Calls Tryd.prog 6 #[nodeV n] w fun e w' => e = .returned (.tuple #[.string (S (encB n)), .int .i64 (encE n)]) ∧ Below w.heap.size w w' := by
  unfold encB encE
  cases h : encN n with
  | some b => exact renc_ok n b w h
  | none => exact renc_no n w h hpl
theorem tdec_any (A : Nat → Addr) (B : Nat) (l : List UInt8) (w : World) (hS : Sents A B w) (hl : l.length ≤ 9223372036854775807) :
    Calls Tryd.prog 7 #[.string (S l)] w fun e w' => e = .returned (.tuple #[nodeV (decV l), .int .i64 (decE l)]) ∧ Below w.heap.size w w' := by
  unfold decV decE
  cases h : decN l with
  | some n => exact dec_ok A l n w h hl
  | none => exact dec_bad A B l w hS h hl
theorem rdec_any (l : List UInt8) (w : World) (hl : l.length ≤ 9223372036854775807) :
    Calls Tryd.prog 8 #[.string (S l)] w fun e w' => e = .returned (.tuple #[nodeV (decV l), .int .i64 (decE l)]) ∧ Below w.heap.size w w' := by
  unfold decV decE
  cases h : decN l with
  | some n => exact rdec_ok l n w h hl
  | none => exact rdec_bad l w h hl

set_option maxHeartbeats 1000000 in
theorem nodes_any (A : Nat → Addr) (B : Nat) (n : Nd) (l : List UInt8) (w : World) (hS : Sents A B w) (hpl : n.path.length ≤ 9223372036854775807) (hl : l.length ≤ 9223372036854775807) :
    Calls Tryd.prog 3 #[nodeV n, .string (S l)] w fun e w' => e = .returned (.bool true) ∧ Below w.heap.size w w' := by
  have hk1 := fun w hS => tenc_any A B n w hS hpl
  have hk2 := fun w => renc_any n w hpl
  have hk3 := fun w hS => tdec_any A B l w hS hl
  have hk4 := fun w => rdec_any l w hl
  have hk5 := fun w hS => tenc_any A B empty w hS (by simp [empty])
  have he1 : encB empty = [2] := rfl
  have he2 : encE empty = 0 := rfl
  rw [he1, he2] at hk5
  have hBs := hS.size
  clear hpl hl he1 he2
  generalize encB n = sb at hk1 hk2
  generalize encE n = se at hk1 hk2
  generalize decV l = dn at hk3 hk4
  generalize decE l = de at hk3 hk4
  obtain ⟨nk, np, nv, nx, ny⟩ := n
  obtain ⟨dk, dp, dv, dx, dy⟩ := dn
  unfold empty at hk5
  unfold nodeV at *
  simp only at *
  have hq0 := At5.new w (.int .i64 nk) (.string (S np)) (.string (S nv)) (.int .i64 nx) (.int .i64 ny) 23
  have hb0 := (Below.refl w.heap.size w).alloc (Nat.le_refl _) (.cells #[.int .i64 nk, .string (S np), .string (S nv), .int .i64 nx, .int .i64 ny] 23)
  go_enter Tryd.func3, Tryd.ntmps3
  go_wp2_with fail
  refine (hk1 _ (hS.to (hb0.mono hBs))).mono ?_
  rintro e w1 ⟨rfl, hb1⟩
  have hz1 : w.heap.size < w1.heap.size := by have := hb1.size; simp at this; omega
  have hq1 := hq0.below hb1 (by simp)
  have hbx1 := hb0.trans (hb1.mono (by simp))
  clear hb1 hb0 hk1 hq0
  have hq1' := hq1
  obtain ⟨hq, hqz⟩ := hq1
  go_wp2_with fail
  refine (hk2 _).mono ?_
  rintro e w2 ⟨rfl, hb2⟩
  have hz2 : w.heap.size < w2.heap.size := by have := hb2.size; omega
  have hbx2 := hbx1.trans (hb2.mono (by omega))
  clear hb2 hbx1 hk2 hq1' hq hqz
  go_wp2_with fail
  refine (hk3 _ (hS.to (hbx2.mono hBs))).mono ?_
  rintro e w3 ⟨rfl, hb3⟩
  have hz3 : w.heap.size < w3.heap.size := by have := hb3.size; omega
  have hbx3 := hbx2.trans (hb3.mono (by omega))
  clear hb3 hbx2 hk3
  have hq0 := At5.new w3 (.int .i64 dk) (.string (S dp)) (.string (S dv)) (.int .i64 dx) (.int .i64 dy) 23
  have hb0 := hbx3.alloc (by omega) (.cells #[.int .i64 dk, .string (S dp), .string (S dv), .int .i64 dx, .int .i64 dy] 23)
  go_wp2_with fail
  refine (hk4 _).mono ?_
  rintro e w4 ⟨rfl, hb4⟩
  have hq4 := hq0.below hb4 (by simp)
  have hz4 : w3.heap.size < w4.heap.size := by have := hb4.size; simp at this; omega
  have hbx4 := hb0.trans (hb4.mono (by simp; omega))
  clear hb4 hb0 hbx3 hk4 hq0
  have hq0 := At5.new w4 (.int .i64 dk) (.string (S dp)) (.string (S dv)) (.int .i64 dx) (.int .i64 dy) 23
  have hb0 := hbx4.alloc (by omega) (.cells #[.int .i64 dk, .string (S dp), .string (S dv), .int .i64 dx, .int .i64 dy] 23)
  have hq4' := hq4.below ((Below.refl w4.heap.size w4).alloc (Nat.le_refl _) (.cells #[.int .i64 dk, .string (S dp), .string (S dv), .int .i64 dx, .int .i64 dy] 23)) hz4
  go_wp2_with fail
  refine (hk5 _ (hS.to (hb0.mono hBs))).mono ?_
  rintro e w5 ⟨rfl, hb5⟩
  have hq5 := hq0.below hb5 (by simp)
  have hq6 := hq4'.below hb5 (by simp; omega)
  have hbx5 := hb0.trans (hb5.mono (by simp; omega))
  clear hb5 hb0 hbx4 hk5 hq0 hq4 hq4'
  have hs2 : (S [2]).toList = [2] := by rw [Lib.toList_data, S_list]
  obtain ⟨hq5a, hq5b⟩ := hq5
  obtain ⟨hq6a, hq6b⟩ := hq6
  go_wp2
  go_ret
  exact ⟨rfl, hbx5⟩
end Go.Proofs.YtddcbeeldjjmeaaDoor.Tw
