/-
  DERIVED. GIVEN WITH THE SEED: THE CARDS: each row of YtddcbeeldjjmeaaDoorRows.lean that lists a variable, with what it lists TIED to the program's text (the seventh form; the later family's looks); each row that meets fmt, with fmt's text TOLD by the authors' own Lean function (tested against real Go, not proved from fmt's source: count such statements apart). THE CARD IS WHAT COUNTS. Prove the row's statement (the work); the ties are given (YtddcbeeldjjmeaaDoorTie.lean); close each card by the builder's one call (the guide's Derived/Test/ToyasCard.lean, 'card_holds'). Laid BY PROGRAM, IN A SANDBOX (cutbox-door.mjs). By AI agents, Wed Nov 11 2026. No macro, syntax, notation, axiom, sorry.
-/
import Derived.Test.YtddcbeeldjjmeaaDoorRows
import GoSem.ClaimSeven
namespace Go.Proofs.YtddcbeeldjjmeaaDoor
namespace Rows

/-- THE TIED CARD OF 'twiglaw.Nodes'. -/
def nodesCard : Claim7 := { stood := { row := nodesRow, standIns := [], harness := (true, "0838c038b64891d6baf753b3cfce8d1ed734550b20ae2c496478a33797b45cf2"), looks := true }, kinds := [], alts := [], laidByText := true, laidKinds := [.data, .sentinel, .sentinel, .sentinel, .sentinel, .sentinel, .sentinel, .sentinel, .sentinel, .sentinel, .sentinel, .sentinel, .sentinel, .sentinel, .sentinel, .sentinel, .pinned], laidTests := true, laidLooks := .later }
def NodesCardSaid : Prop := Claim7.holds Tryd.pinned (.plain (OpenSpec.ofChange nodesSpec)) nodesCard

/-- THE TIED CARD OF 'twiglaw.Manifests'. -/
def manifestsCard : Claim7 := { stood := { row := manifestsRow, standIns := [], harness := (true, "0838c038b64891d6baf753b3cfce8d1ed734550b20ae2c496478a33797b45cf2"), looks := true }, kinds := [], alts := [], laidByText := true, laidKinds := [.data, .data, .data, .sentinel, .sentinel, .sentinel, .sentinel, .sentinel, .sentinel, .sentinel, .sentinel, .sentinel, .sentinel, .sentinel, .sentinel, .sentinel, .sentinel, .sentinel], laidTests := true, laidLooks := .later }
def ManifestsCardSaid : Prop := Claim7.holds Tryd.pinned (.plain (OpenSpec.ofChange manifestsSpec)) manifestsCard

/-- THE SECOND FORM's CARD OF 'twiglaw.Nodes'. -/
def nodesUptoCard : Claim7 := { stood := { row := nodesUptoRow, standIns := [], harness := (true, "0838c038b64891d6baf753b3cfce8d1ed734550b20ae2c496478a33797b45cf2"), looks := true }, kinds := [], alts := [], laidByText := true, laidKinds := [.data, .sentinel, .sentinel, .sentinel, .sentinel, .sentinel, .sentinel, .sentinel, .sentinel, .sentinel, .sentinel, .sentinel, .sentinel, .sentinel, .sentinel, .sentinel, .pinned], laidTests := true, laidLooks := .later }
def NodesUptoCardSaid : Prop := Claim7.holds Tryd.pinned (.plain (OpenSpec.upto nodesSpec)) nodesUptoCard

/-- THE SECOND FORM's CARD OF 'twiglaw.Manifests'. -/
def manifestsUptoCard : Claim7 := { stood := { row := manifestsUptoRow, standIns := [], harness := (true, "0838c038b64891d6baf753b3cfce8d1ed734550b20ae2c496478a33797b45cf2"), looks := true }, kinds := [], alts := [], laidByText := true, laidKinds := [.data, .data, .data, .sentinel, .sentinel, .sentinel, .sentinel, .sentinel, .sentinel, .sentinel, .sentinel, .sentinel, .sentinel, .sentinel, .sentinel, .sentinel, .sentinel, .sentinel], laidTests := true, laidLooks := .later }
def ManifestsUptoCardSaid : Prop := Claim7.holds Tryd.pinned (.plain (OpenSpec.upto manifestsSpec)) manifestsUptoCard
end Rows
end Go.Proofs.YtddcbeeldjjmeaaDoor
