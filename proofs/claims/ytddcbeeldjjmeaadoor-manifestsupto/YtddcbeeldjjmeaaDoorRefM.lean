/- The document's answer: EncodeManifest, where the manifest has no bytes by its numbers. -/
import Derived.Test.YtddcbeeldjjmeaaDoorRefO
import Derived.Test.YtddcbeeldjjmeaaDoorMan
import Derived.Deep.QuietTactic
import Derived.BigQuiet
namespace Go.Proofs.YtddcbeeldjjmeaaDoor.Tw
open Go.RowKit Go.Proofs.YtddcbeeldjjmeaaDoor.Pu
set_option linter.unusedVariables false
set_option linter.unusedSimpArgs false

theorem wrapI64m (n : Int) (h0 : -9223372036854775808 ≤ n) (h1 : n ≤ 9223372036854775807) : IntKind.i64.wrap n = n := by
  simp [IntKind.wrap, IntKind.min, IntKind.max, IntKind.signed, IntKind.bits]
  omega
theorem okD_no (k : Nat) (rt : Int) (h : okD k rt = false) : rt < 0 ∨ (0 ≤ rt ∧ 2 ^ k ≤ rt) := by
  unfold okD at h
  have := of_decide_eq_false h
  omega

set_option maxRecDepth 20000 in
set_option maxHeartbeats 2000000 in
theorem rencM_no1 (wd rt sz tt : Int) (v : Value) (w : World) (h : ¬ (1 ≤ wd ∧ wd ≤ 32)) :
    Calls Tryd.prog 10 #[.agg #[.int .i64 wd, .int .i64 rt, .int .i64 sz, .int .i64 tt, v]] w fun e w' => e = .returned (.tuple #[.string (S []), .int .i64 3]) ∧ Below w.heap.size w w' := by
  have hc : wd < 1 ∨ (¬ wd < 1 ∧ 32 < wd) := by omega
  clear h
  rcases hc with hc | ⟨hc0, hc⟩
  all_goals
    go_enter Tryd.func10, Tryd.ntmps10
    go_wp2_with fail
    go_quiet (fail)
    go_wp2
    go_ret2
    exact ⟨rfl, below_drewN ((Below.refl _ w).alloc (Nat.le_refl _) _) _⟩

set_option maxRecDepth 20000 in
set_option maxHeartbeats 4000000 in
theorem rencM_no2 (k : Nat) (rt sz tt : Int) (v : Value) (w : World) (h1 : 1 ≤ k) (h2 : k ≤ 32) (h : okD k rt = false ∨ (okD k rt = true ∧ ¬ (8 ≤ sz ∧ sz ≤ 1000))) :
    Calls Tryd.prog 10 #[.agg #[.int .i64 k, .int .i64 rt, .int .i64 sz, .int .i64 tt, v]] w fun e w' => e = .returned (.tuple #[.string (S []), .int .i64 3]) ∧ Below w.heap.size w w' := by
  obtain ⟨hp1, hp2⟩ := pow32 k h2
  have hwk : IntKind.i64.wrap (2 ^ k) = 2 ^ k := wrapI64m _ (by omega) (by omega)
  have hk0 : ¬ (k : Int) < 1 := by omega
  have hk1 : ¬ (32 : Int) < (k : Int) := by omega
  have hc : rt < 0 ∨ (¬ rt < 0 ∧ 2 ^ k ≤ rt) ∨ (¬ rt < 0 ∧ ¬ (2 : Int) ^ k ≤ rt ∧ sz < 8) ∨ (¬ rt < 0 ∧ ¬ (2 : Int) ^ k ≤ rt ∧ ¬ sz < 8 ∧ 1000 < sz) := by
    rcases h with h | ⟨h, h3⟩
    · rcases okD_no k rt h with h | h
      · exact Or.inl h
      · exact Or.inr (Or.inl ⟨by omega, h.2⟩)
    · have := of_decide_eq_true h
      omega
  clear h
  rcases hc with hc | ⟨hc0, hc⟩ | ⟨hc0, hc1, hc⟩ | ⟨hc0, hc1, hc2, hc⟩
  all_goals
    go_enter Tryd.func10, Tryd.ntmps10
    go_wp2_with fail
    go_quiet (fail)
    go_wp2
    go_ret2
    exact ⟨rfl, below_drewN ((Below.refl _ w).alloc (Nat.le_refl _) _) _⟩
end Go.Proofs.YtddcbeeldjjmeaaDoor.Tw
