/- The closed facts of the row Strict, one by one: together they ask the kernel for more memory than it has. -/
import Derived.Test.YtddcbeeldjjmeaaGreatDoorTie
import Derived.Test.YtddcbeeldjjmeaaGreatDoorCards
import Derived.Stop.Joined
namespace Go.Proofs.YtddcbeeldjjmeaaGreatDoor.strict
set_option linter.unusedVariables false

theorem fc1 : laidOutB Tryz.pinned.checked.prog = true := by kernel_rfl
theorem fc2 : mapsRowed Tryz.pinned.checked.prog = true := by kernel_rfl
theorem fc3 : (Rows.strictRow.inPlace == Tryz.pinned.checked.prog.inPlace 5) = true := by kernel_rfl
theorem fc4 : (Rows.strictRow.unfollowed == Tryz.pinned.checked.prog.unfollowed 5) = true := by kernel_rfl
theorem fc5 : (Rows.strictRow.recurses == Tryz.pinned.checked.prog.recurses 5) = true := by kernel_rfl
theorem fc6 : (Rows.strictRow.named == Tryz.pinned.checked.prog.varsNamed 5) = true := by kernel_rfl
theorem fc7 : namedTie Tryz.pinned.checked.prog Rows.strictRow.named Rows.strictSpec.vars = true := by kernel_rfl
theorem fc8 : (Tryz.pinned.checked.prog.stopsHeard) = true := by kernel_rfl
theorem fc9 : (Tryz.pinned.checked.prog.mayEnter) = true := by kernel_rfl
theorem fc10 : (Rows.strictRow.lifted == Tryz.pinned.checked.prog.liftsFinal) = true := by kernel_rfl
theorem fc11 : (Rows.strictRow.plainKeys == Tryz.pinned.checked.prog.plainKeys) = true := by kernel_rfl
theorem fc12 : (Tryz.pinned.checked.prog.make == some Rows.strictRow.make) = true := by kernel_rfl
theorem facts : joinedFacts Tryz.pinned.checked.prog 5 Tryz.f5 Rows.strictSpec Rows.strictRow = true := by
  unfold joinedFacts
  rw [fc1, fc2, fc7, fc3, fc4, fc5, fc6, fc11, fc8, fc9, fc10, fc12]
  kernel_rfl
end Go.Proofs.YtddcbeeldjjmeaaGreatDoor.strict
