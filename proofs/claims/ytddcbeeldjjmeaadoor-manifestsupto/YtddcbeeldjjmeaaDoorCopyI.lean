/- 'copy' of ints into a new row. -/
import Derived.Test.YtddcbeeldjjmeaaDoorMan
import Derived.Test.YtddcbeeldjjmeaaDoorDecM5
import Derived.Laws.CopyRow
import Derived.Laws.IdiomCopy
namespace Go.Proofs.YtddcbeeldjjmeaaDoor.Tw
open Go.RowKit Go.Proofs.YtddcbeeldjjmeaaDoor.Pu
set_option linter.unusedVariables false
set_option linter.unusedSimpArgs false

theorem copyI (ty : TypeId) (w : World) (g k : Nat) (ds : List Int) (p : Option Addr) (cap : Nat) (hrow : NRow w g (List.replicate (ds.length + k) 0)) (hv : IRow w (.slice p ds.length cap) ds) :
    (Builtin.copy_ #[30, 30] ty #[.slice (some ⟨g, 0, none⟩) (ds.length + k) (ds.length + k), .slice p ds.length cap]).run Tryd.prog w = .ok (.int .i64 ds.length) (w.setRow g ((ds ++ List.replicate k 0).map fun n => Value.int .i64 n).toArray) := by
  have hs : (Tryd.prog.info? 3).map (·.size) = some 1 := by
    obtain ⟨i0, hi, _, h1, _⟩ := info_parts i64info
    rw [hi]; simpa using h1
  rcases Nat.eq_zero_or_pos ds.length with h0 | h0
  · obtain rfl := List.length_eq_zero_iff.1 h0
    have e : w.setRow g ((([] : List Int) ++ List.replicate k 0).map fun n => Value.int .i64 n).toArray = w := by
      refine setRow_self w g _ 3 (0, 0) ?_
      unfold NRow at hrow
      simpa using hrow
    rw [e]
    exact run_copy_none (P := Tryd.prog) w 30 30 ty 3 _ p _ _ 0 cap Tryd.underlying30 hs (by simp)
  · obtain ⟨p', cap', e, hc⟩ := hv
    obtain ⟨rfl, _⟩ : p = p' ∧ cap = cap' := by simpa using e
    obtain ⟨a, rfl, _⟩ := hc 0 h0
    have h := run_copy_row (P := Tryd.prog) w 30 30 ty 3 g 0 (ds.length + k) (ds.length + k) a ds.length cap _ 3 (ds.map fun n => Value.int .i64 n) Tryd.underlying30 hs hrow (by simp) (fun j v hj => by
      rw [List.getElem?_map] at hj
      obtain ⟨x, hx, rfl⟩ := Option.map_eq_some_iff.1 hj
      obtain ⟨hjl, rfl⟩ := List.getElem?_eq_some_iff.1 hx
      obtain ⟨a', e', hcell⟩ := hc j hjl
      cases e'; exact hcell) (by simp) (fun v hv => by obtain ⟨x, _, rfl⟩ := List.mem_map.1 hv; rfl)
    rw [h]
    simp
    rfl
end Go.Proofs.YtddcbeeldjjmeaaDoor.Tw
