/-
  DERIVED. GIVEN WITH THE SEED: THE CARDS: each row of YtbbkhdgkpacjgaaDoorRows.lean that lists a variable, with what it lists TIED to the program's text (the seventh form; the later family's looks); each row that meets fmt, with fmt's text TOLD by the authors' own Lean function (tested against real Go, not proved from fmt's source: count such statements apart). THE CARD IS WHAT COUNTS. Prove the row's statement (the work); the ties are given (YtbbkhdgkpacjgaaDoorTie.lean); close each card by the builder's one call (the guide's Derived/Test/ToyasCard.lean, 'card_holds'). Laid BY PROGRAM, IN A SANDBOX (cutbox-door.mjs). By AI agents, Wed Nov 11 2026. No macro, syntax, notation, axiom, sorry.
-/
import Derived.Test.YtbbkhdgkpacjgaaDoorRows
import GoSem.ClaimSeven
namespace Go.Proofs.YtbbkhdgkpacjgaaDoor
namespace Rows

/-- THE TIED CARD OF 'bullalaw04.WholePut'. -/
def wholePutCard : Claim7 := { stood := { row := wholePutRow, standIns := [], harness := (true, "3b8ae750e8881d1c5228b2ab1d2c7dc86046d2c12b1b5aa5a2dfa8c7310cc02b"), looks := true }, kinds := [], alts := [], laidByText := true, laidKinds := [.sentinel, .sentinel, .sentinel, .sentinel, .sentinel, .sentinel, .sentinel, .sentinel, .sentinel, .sentinel, .sentinel, .sentinel, .sentinel, .sentinel, .sentinel, .sentinel, .sentinel, .sentinel, .sentinel, .sentinel, .sentinel, .sentinel, .sentinel, .sentinel, .sentinel, .sentinel, .sentinel, .sentinel], laidTests := true, laidLooks := .later }
def WholePutCardSaid : Prop := Claim7.holds Tryd.pinned (.plain (OpenSpec.ofChange wholePutSpec)) wholePutCard

/-- THE TIED CARD OF 'bullalaw04.WholeGet'. -/
def wholeGetCard : Claim7 := { stood := { row := wholeGetRow, standIns := [], harness := (true, "3b8ae750e8881d1c5228b2ab1d2c7dc86046d2c12b1b5aa5a2dfa8c7310cc02b"), looks := true }, kinds := [], alts := [], laidByText := true, laidKinds := [.sentinel, .sentinel, .sentinel, .sentinel, .sentinel, .sentinel, .sentinel, .sentinel, .sentinel, .sentinel, .sentinel, .sentinel, .sentinel, .sentinel, .sentinel, .sentinel, .sentinel, .sentinel, .sentinel, .sentinel, .sentinel, .sentinel, .sentinel, .sentinel, .sentinel, .sentinel, .sentinel, .sentinel], laidTests := true, laidLooks := .later }
def WholeGetCardSaid : Prop := Claim7.holds Tryd.pinned (.plain (OpenSpec.ofChange wholeGetSpec)) wholeGetCard

/-- THE TIED CARD OF 'bullalaw04.WholeTruth'. -/
def wholeTruthCard : Claim7 := { stood := { row := wholeTruthRow, standIns := [], harness := (true, "3b8ae750e8881d1c5228b2ab1d2c7dc86046d2c12b1b5aa5a2dfa8c7310cc02b"), looks := true }, kinds := [], alts := [], laidByText := true, laidKinds := [.sentinel, .sentinel, .sentinel, .sentinel, .sentinel, .sentinel, .sentinel, .sentinel, .sentinel, .sentinel, .sentinel, .sentinel, .sentinel, .sentinel, .sentinel, .sentinel, .sentinel, .sentinel, .sentinel, .sentinel, .sentinel, .sentinel, .sentinel, .sentinel, .sentinel, .sentinel, .sentinel, .sentinel], laidTests := true, laidLooks := .later }
def WholeTruthCardSaid : Prop := Claim7.holds Tryd.pinned (.plain (OpenSpec.ofChange wholeTruthSpec)) wholeTruthCard

/-- THE TIED CARD OF 'bullalaw04.WholeFigures'. -/
def wholeFiguresCard : Claim7 := { stood := { row := wholeFiguresRow, standIns := [], harness := (true, "3b8ae750e8881d1c5228b2ab1d2c7dc86046d2c12b1b5aa5a2dfa8c7310cc02b"), looks := true }, kinds := [], alts := [], laidByText := true, laidKinds := [.data, .data, .data, .sentinel, .sentinel, .sentinel, .sentinel, .sentinel, .sentinel, .sentinel, .sentinel, .sentinel, .sentinel, .sentinel, .sentinel, .sentinel, .sentinel, .sentinel, .sentinel, .sentinel, .sentinel, .sentinel, .sentinel, .sentinel, .sentinel, .sentinel, .sentinel, .sentinel, .sentinel, .sentinel, .sentinel, .sentinel, .sentinel], laidTests := true, laidLooks := .later }
def WholeFiguresCardSaid : Prop := Claim7.holds Tryd.pinned (.plain (OpenSpec.ofChange wholeFiguresSpec)) wholeFiguresCard

/-- THE SECOND FORM's CARD OF 'bullalaw04.WholePut'. -/
def wholePutUptoCard : Claim7 := { stood := { row := wholePutUptoRow, standIns := [], harness := (true, "3b8ae750e8881d1c5228b2ab1d2c7dc86046d2c12b1b5aa5a2dfa8c7310cc02b"), looks := true }, kinds := [], alts := [], laidByText := true, laidKinds := [.sentinel, .sentinel, .sentinel, .sentinel, .sentinel, .sentinel, .sentinel, .sentinel, .sentinel, .sentinel, .sentinel, .sentinel, .sentinel, .sentinel, .sentinel, .sentinel, .sentinel, .sentinel, .sentinel, .sentinel, .sentinel, .sentinel, .sentinel, .sentinel, .sentinel, .sentinel, .sentinel, .sentinel], laidTests := true, laidLooks := .later }
def WholePutUptoCardSaid : Prop := Claim7.holds Tryd.pinned (.plain (OpenSpec.upto wholePutSpec)) wholePutUptoCard

/-- THE SECOND FORM's CARD OF 'bullalaw04.WholeGet'. -/
def wholeGetUptoCard : Claim7 := { stood := { row := wholeGetUptoRow, standIns := [], harness := (true, "3b8ae750e8881d1c5228b2ab1d2c7dc86046d2c12b1b5aa5a2dfa8c7310cc02b"), looks := true }, kinds := [], alts := [], laidByText := true, laidKinds := [.sentinel, .sentinel, .sentinel, .sentinel, .sentinel, .sentinel, .sentinel, .sentinel, .sentinel, .sentinel, .sentinel, .sentinel, .sentinel, .sentinel, .sentinel, .sentinel, .sentinel, .sentinel, .sentinel, .sentinel, .sentinel, .sentinel, .sentinel, .sentinel, .sentinel, .sentinel, .sentinel, .sentinel], laidTests := true, laidLooks := .later }
def WholeGetUptoCardSaid : Prop := Claim7.holds Tryd.pinned (.plain (OpenSpec.upto wholeGetSpec)) wholeGetUptoCard

/-- THE SECOND FORM's CARD OF 'bullalaw04.WholeTruth'. -/
def wholeTruthUptoCard : Claim7 := { stood := { row := wholeTruthUptoRow, standIns := [], harness := (true, "3b8ae750e8881d1c5228b2ab1d2c7dc86046d2c12b1b5aa5a2dfa8c7310cc02b"), looks := true }, kinds := [], alts := [], laidByText := true, laidKinds := [.sentinel, .sentinel, .sentinel, .sentinel, .sentinel, .sentinel, .sentinel, .sentinel, .sentinel, .sentinel, .sentinel, .sentinel, .sentinel, .sentinel, .sentinel, .sentinel, .sentinel, .sentinel, .sentinel, .sentinel, .sentinel, .sentinel, .sentinel, .sentinel, .sentinel, .sentinel, .sentinel, .sentinel], laidTests := true, laidLooks := .later }
def WholeTruthUptoCardSaid : Prop := Claim7.holds Tryd.pinned (.plain (OpenSpec.upto wholeTruthSpec)) wholeTruthUptoCard

/-- THE SECOND FORM's CARD OF 'bullalaw04.WholeFigures'. -/
def wholeFiguresUptoCard : Claim7 := { stood := { row := wholeFiguresUptoRow, standIns := [], harness := (true, "3b8ae750e8881d1c5228b2ab1d2c7dc86046d2c12b1b5aa5a2dfa8c7310cc02b"), looks := true }, kinds := [], alts := [], laidByText := true, laidKinds := [.data, .data, .data, .sentinel, .sentinel, .sentinel, .sentinel, .sentinel, .sentinel, .sentinel, .sentinel, .sentinel, .sentinel, .sentinel, .sentinel, .sentinel, .sentinel, .sentinel, .sentinel, .sentinel, .sentinel, .sentinel, .sentinel, .sentinel, .sentinel, .sentinel, .sentinel, .sentinel, .sentinel, .sentinel, .sentinel, .sentinel, .sentinel], laidTests := true, laidLooks := .later }
def WholeFiguresUptoCardSaid : Prop := Claim7.holds Tryd.pinned (.plain (OpenSpec.upto wholeFiguresSpec)) wholeFiguresUptoCard
end Rows
end Go.Proofs.YtbbkhdgkpacjgaaDoor
