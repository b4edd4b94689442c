/- The closed facts of the row Back, one by one: together they ask the kernel for more memory than it has. -/
import Derived.Test.YtddcbeeldjjmeaaGreatDoorTie
import Derived.Test.YtddcbeeldjjmeaaGreatDoorCards
import Derived.Stop.Joined
namespace Go.Proofs.YtddcbeeldjjmeaaGreatDoor.back
set_option linter.unusedVariables false

theorem fc1 : laidOutB Tryz.pinned.checked.prog = true := by kernel_rfl
theorem fc2 : mapsRowed Tryz.pinned.checked.prog = true := by kernel_rfl
theorem fc3 : (Rows.backRow.inPlace == Tryz.pinned.checked.prog.inPlace 4) = true := by kernel_rfl
theorem fc4 : (Rows.backRow.unfollowed == Tryz.pinned.checked.prog.unfollowed 4) = true := by kernel_rfl
theorem fc5 : (Rows.backRow.recurses == Tryz.pinned.checked.prog.recurses 4) = true := by kernel_rfl
theorem fc6 : (Rows.backRow.named == Tryz.pinned.checked.prog.varsNamed 4) = true := by kernel_rfl
theorem fc7 : namedTie Tryz.pinned.checked.prog Rows.backRow.named Rows.backSpec.vars = true := by kernel_rfl
theorem fc8 : (Tryz.pinned.checked.prog.stopsHeard) = true := by kernel_rfl
theorem fc9 : (Tryz.pinned.checked.prog.mayEnter) = true := by kernel_rfl
theorem fc10 : (Rows.backRow.lifted == Tryz.pinned.checked.prog.liftsFinal) = true := by kernel_rfl
theorem fc11 : (Rows.backRow.plainKeys == Tryz.pinned.checked.prog.plainKeys) = true := by kernel_rfl
theorem fc12 : (Tryz.pinned.checked.prog.make == some Rows.backRow.make) = true := by kernel_rfl
theorem facts : joinedFacts Tryz.pinned.checked.prog 4 Tryz.f4 Rows.backSpec Rows.backRow = true := by
  unfold joinedFacts
  rw [fc1, fc2, fc7, fc3, fc4, fc5, fc6, fc11, fc8, fc9, fc10, fc12]
  kernel_rfl
end Go.Proofs.YtddcbeeldjjmeaaGreatDoor.back
