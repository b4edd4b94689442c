/- The document's answer: EncodeManifest, where the numbers of bytes or of digests are none. -/
import Derived.Test.YtddcbeeldjjmeaaDoorRefM
namespace Go.Proofs.YtddcbeeldjjmeaaDoor.Tw
open Go.RowKit Go.Proofs.YtddcbeeldjjmeaaDoor.Pu
set_option linter.unusedVariables false
set_option linter.unusedSimpArgs false

set_option maxRecDepth 20000 in
set_option maxHeartbeats 4000000 in
theorem rencM_no3 (k : Nat) (rt sz tt : Int) (p : Option Addr) (len cap : Nat) (w : World) (h1 : 1 ≤ k) (h2 : k ≤ 32) (h3 : okD k rt = true) (h4 : 8 ≤ sz ∧ sz ≤ 1000) (h : ¬ (1 ≤ tt ∧ tt ≤ 100000) ∨ ((1 ≤ tt ∧ tt ≤ 100000) ∧ ¬ (len : Int) = (tt + sz - 1) / sz)) :
    Calls Tryd.prog 10 #[.agg #[.int .i64 k, .int .i64 rt, .int .i64 sz, .int .i64 tt, .slice p len cap]] w fun e w' => e = .returned (.tuple #[.string (S []), .int .i64 3]) ∧ Below w.heap.size w w' := by
  obtain ⟨hp1, hp2⟩ := pow32 k h2
  have hwk : IntKind.i64.wrap (2 ^ k) = 2 ^ k := wrapI64m _ (by omega) (by omega)
  have hk0 : ¬ (k : Int) < 1 := by omega
  have hk1 : ¬ (32 : Int) < (k : Int) := by omega
  have h3' := of_decide_eq_true h3
  have hr0 : ¬ rt < 0 := by omega
  have hr1 : ¬ (2 : Int) ^ k ≤ rt := by omega
  have hs0 : ¬ sz < 8 := by omega
  have hs1 : ¬ 1000 < sz := by omega
  have hz : (sz == 0) = false := by simp; omega
  have hc : tt < 1 ∨ (¬ tt < 1 ∧ 100000 < tt) ∨ (¬ tt < 1 ∧ ¬ 100000 < tt ∧ ((len : Int) == (tt + sz - 1) / sz) = false) := by
    rcases h with h | ⟨h, h5⟩
    · omega
    · exact Or.inr (Or.inr ⟨by omega, by omega, by simpa using h5⟩)
  clear h h3 h3'
  rcases hc with hc | ⟨hc0, hc⟩ | ⟨hc0, hc1, hc⟩
  · go_enter Tryd.func10, Tryd.ntmps10
    go_wp2_with fail
    go_quiet (fail)
    go_wp2_with fail
    go_quiet (fail)
    go_wp2
    go_ret2
    exact ⟨rfl, below_drewN (below_drewN ((Below.refl _ w).alloc (Nat.le_refl _) _) _) _⟩
  · have hd0 : decide (tt < 1) = false := by simpa using hc0
    have hd1 : decide ((100000 : Int) < tt) = true := by simpa using hc
    go_enter Tryd.func10, Tryd.ntmps10
    go_wp2_with fail
    go_quiet (fail)
    go_wp2_with fail
    go_quiet (fail)
    go_wp2
    go_ret2
    exact ⟨rfl, below_drewN (below_drewN ((Below.refl _ w).alloc (Nat.le_refl _) _) _) _⟩
  · obtain ⟨s, rfl⟩ : ∃ s : Nat, sz = s := ⟨sz.toNat, by omega⟩
    obtain ⟨t, rfl⟩ : ∃ t : Nat, tt = t := ⟨tt.toNat, by omega⟩
    have hd0 : decide ((t : Int) < 1) = false := by simpa using hc0
    have hd1 : decide ((100000 : Int) < (t : Int)) = false := by simpa using hc1
    have hw1 : IntKind.i64.wrap ((t : Int) + s) = (t : Int) + s := wrapI64m _ (by omega) (by omega)
    have hw2 : IntKind.i64.wrap ((t : Int) + s - 1) = (t : Int) + s - 1 := wrapI64m _ (by omega) (by omega)
    have hq0 : 0 ≤ ((t : Int) + s - 1) / s := Int.ediv_nonneg (by omega) (by omega)
    have hq1 : ((t : Int) + s - 1) / s ≤ (t : Int) + s - 1 := Int.ediv_le_self _ (by omega)
    have hw3 : IntKind.i64.wrap (((t : Int) + s - 1) / s) = ((t : Int) + s - 1) / s := wrapI64m _ (by omega) (by omega)
    go_enter Tryd.func10, Tryd.ntmps10
    go_wp2_with fail
    go_quiet (fail)
    go_wp2_with fail
    go_quiet (fail)
    go_wp2
    go_ret2
    exact ⟨rfl, below_drewN (below_drewN ((Below.refl _ w).alloc (Nat.le_refl _) _) _) _⟩
end Go.Proofs.YtddcbeeldjjmeaaDoor.Tw
