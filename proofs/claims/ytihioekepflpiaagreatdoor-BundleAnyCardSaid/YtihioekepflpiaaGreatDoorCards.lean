/-
  DERIVED. GIVEN WITH THE SEED: THE CARDS: each row of YtihioekepflpiaaGreatDoorRows.lean that lists a variable, with what it lists TIED to the program's text (the seventh form; the later family's looks); each row that meets fmt, with fmt's text TOLD by the authors' own Lean function (tested against real Go, not proved from fmt's source: count such statements apart). THE CARD IS WHAT COUNTS. Prove the row's statement (the work); the ties are given (YtihioekepflpiaaGreatDoorTie.lean); close each card by the builder's one call (the guide's Derived/Test/ToyasCard.lean, 'card_holds'). Laid BY PROGRAM, IN A SANDBOX (cutbox-door.mjs). By AI agents, Wed Nov 11 2026. No macro, syntax, notation, axiom, sorry.
-/
import Derived.Test.YtihioekepflpiaaGreatDoorRows
import GoSem.ClaimSeven
namespace Go.Proofs.YtihioekepflpiaaGreatDoor
namespace Rows

/-- THE TIED CARD OF 'bullalaw13.BundleSteps'. -/
def bundleStepsCard : Claim7 := { stood := { row := bundleStepsRow, standIns := [], harness := (true, "7b17e2bee96c2f27fbe83da25538802454c312eacbce6b93b4a0777797664ee0"), looks := true }, kinds := [], alts := [], laidByText := true, laidKinds := [.data, .sentinel, .sentinel, .sentinel, .sentinel, .sentinel, .sentinel, .sentinel, .sentinel, .sentinel, .sentinel, .sentinel, .sentinel, .sentinel, .sentinel, .sentinel, .sentinel, .sentinel, .sentinel, .sentinel, .sentinel, .sentinel, .sentinel, .sentinel, .sentinel, .sentinel, .sentinel, .sentinel, .sentinel, .data, .pinned], laidTests := true, laidLooks := .later }
def BundleStepsCardSaid : Prop := Claim7.holds Tryz.pinned (.plain (OpenSpec.ofChange bundleStepsSpec)) bundleStepsCard

/-- THE TIED CARD OF 'bullalaw13.BundleAny'. -/
def bundleAnyCard : Claim7 := { stood := { row := bundleAnyRow, standIns := [], harness := (true, "7b17e2bee96c2f27fbe83da25538802454c312eacbce6b93b4a0777797664ee0"), looks := true }, kinds := [], alts := [], laidByText := true, laidKinds := [.data, .sentinel, .sentinel, .sentinel, .sentinel, .sentinel, .sentinel, .sentinel, .sentinel, .sentinel, .sentinel, .sentinel, .sentinel, .sentinel, .sentinel, .sentinel, .sentinel, .sentinel, .sentinel, .sentinel, .sentinel, .sentinel, .sentinel, .sentinel, .sentinel, .sentinel, .sentinel, .sentinel, .sentinel, .data, .pinned], laidTests := true, laidLooks := .later }
def BundleAnyCardSaid : Prop := Claim7.holds Tryz.pinned (.plain (OpenSpec.ofChange bundleAnySpec)) bundleAnyCard

/-- THE SECOND FORM's CARD OF 'bullalaw13.BundleSteps'. -/
def bundleStepsUptoCard : Claim7 := { stood := { row := bundleStepsUptoRow, standIns := [], harness := (true, "7b17e2bee96c2f27fbe83da25538802454c312eacbce6b93b4a0777797664ee0"), looks := true }, kinds := [], alts := [], laidByText := true, laidKinds := [.data, .sentinel, .sentinel, .sentinel, .sentinel, .sentinel, .sentinel, .sentinel, .sentinel, .sentinel, .sentinel, .sentinel, .sentinel, .sentinel, .sentinel, .sentinel, .sentinel, .sentinel, .sentinel, .sentinel, .sentinel, .sentinel, .sentinel, .sentinel, .sentinel, .sentinel, .sentinel, .sentinel, .sentinel, .data, .pinned], laidTests := true, laidLooks := .later }
def BundleStepsUptoCardSaid : Prop := Claim7.holds Tryz.pinned (.plain (OpenSpec.upto bundleStepsSpec)) bundleStepsUptoCard

/-- THE SECOND FORM's CARD OF 'bullalaw13.BundleAny'. -/
def bundleAnyUptoCard : Claim7 := { stood := { row := bundleAnyUptoRow, standIns := [], harness := (true, "7b17e2bee96c2f27fbe83da25538802454c312eacbce6b93b4a0777797664ee0"), looks := true }, kinds := [], alts := [], laidByText := true, laidKinds := [.data, .sentinel, .sentinel, .sentinel, .sentinel, .sentinel, .sentinel, .sentinel, .sentinel, .sentinel, .sentinel, .sentinel, .sentinel, .sentinel, .sentinel, .sentinel, .sentinel, .sentinel, .sentinel, .sentinel, .sentinel, .sentinel, .sentinel, .sentinel, .sentinel, .sentinel, .sentinel, .sentinel, .sentinel, .data, .pinned], laidTests := true, laidLooks := .later }
def BundleAnyUptoCardSaid : Prop := Claim7.holds Tryz.pinned (.plain (OpenSpec.upto bundleAnySpec)) bundleAnyUptoCard
end Rows
end Go.Proofs.YtihioekepflpiaaGreatDoor
