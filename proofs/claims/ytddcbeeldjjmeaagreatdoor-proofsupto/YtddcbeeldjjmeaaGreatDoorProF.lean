/- The closed facts of the row Proofs (of bulk at most so much), one by one: together they ask the kernel for more memory than it has. -/
import Derived.Test.YtddcbeeldjjmeaaGreatDoorTie
import Derived.Test.YtddcbeeldjjmeaaGreatDoorCards
import Derived.Stop.Joined
namespace Go.Proofs.YtddcbeeldjjmeaaGreatDoor.proofs
set_option linter.unusedVariables false

theorem fc1 : laidOutB Tryz.pinned.checked.prog = true := by kernel_rfl
theorem fc2 : mapsRowed Tryz.pinned.checked.prog = true := by kernel_rfl
theorem fc3 : (Rows.proofsUptoRow.inPlace == Tryz.pinned.checked.prog.inPlace 3) = true := by kernel_rfl
theorem fc4 : (Rows.proofsUptoRow.unfollowed == Tryz.pinned.checked.prog.unfollowed 3) = true := by kernel_rfl
theorem fc5 : (Rows.proofsUptoRow.recurses == Tryz.pinned.checked.prog.recurses 3) = true := by kernel_rfl
theorem fc6 : (Rows.proofsUptoRow.named == Tryz.pinned.checked.prog.varsNamed 3) = true := by kernel_rfl
theorem fc7 : namedTie Tryz.pinned.checked.prog Rows.proofsUptoRow.named (Rows.OpenSpec.upto Rows.proofsSpec).bare.vars = true := by kernel_rfl
theorem fc8 : (Tryz.pinned.checked.prog.stopsHeard) = true := by kernel_rfl
theorem fc9 : (Tryz.pinned.checked.prog.mayEnter) = true := by kernel_rfl
theorem fc10 : (Rows.proofsUptoRow.lifted == Tryz.pinned.checked.prog.liftsFinal) = true := by kernel_rfl
theorem fc11 : (Rows.proofsUptoRow.plainKeys == Tryz.pinned.checked.prog.plainKeys) = true := by kernel_rfl
theorem fc12 : (Tryz.pinned.checked.prog.make == some Rows.proofsUptoRow.make) = true := by kernel_rfl
theorem facts : joinedFacts Tryz.pinned.checked.prog 3 Tryz.f3 (Rows.OpenSpec.upto Rows.proofsSpec).bare Rows.proofsUptoRow = true := by
  unfold joinedFacts
  rw [fc1, fc2, fc7, fc3, fc4, fc5, fc6, fc11, fc8, fc9, fc10, fc12]
  kernel_rfl
end Go.Proofs.YtddcbeeldjjmeaaGreatDoor.proofs
