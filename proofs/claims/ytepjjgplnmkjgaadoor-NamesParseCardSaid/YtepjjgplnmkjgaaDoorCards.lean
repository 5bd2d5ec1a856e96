/-
  DERIVED. GIVEN WITH THE SEED: THE CARDS: each row of YtepjjgplnmkjgaaDoorRows.lean that lists a variable, with what it lists TIED to the program's text (the seventh form; the later family's looks); each row that meets fmt, with fmt's text TOLD by the authors' own Lean function (tested against real Go, not proved from fmt's source: count such statements apart). THE CARD IS WHAT COUNTS. Prove the row's statement (the work); the ties are given (YtepjjgplnmkjgaaDoorTie.lean); close each card by the builder's one call (the guide's Derived/Test/ToyasCard.lean, 'card_holds'). Laid BY PROGRAM, IN A SANDBOX (cutbox-door.mjs). By AI agents, Wed Nov 11 2026. No macro, syntax, notation, axiom, sorry.
-/
import Derived.Test.YtepjjgplnmkjgaaDoorRows
import GoSem.ClaimSeven
namespace Go.Proofs.YtepjjgplnmkjgaaDoor
namespace Rows

/-- THE TIED CARD OF 'bullalaw09.NamesParse'. -/
def namesParseCard : Claim7 := { stood := { row := namesParseRow, standIns := [], harness := (true, "b5609826ca87f831456ae3a4ac8e7092a140bd83ad3ba2c3b02126c94f9e26b3"), looks := true }, kinds := [], alts := [], laidByText := true, laidKinds := [.sentinel, .sentinel, .sentinel, .sentinel, .sentinel, .sentinel, .sentinel, .sentinel, .sentinel, .sentinel, .sentinel, .sentinel, .sentinel, .sentinel, .sentinel, .sentinel, .sentinel, .sentinel, .sentinel, .sentinel, .sentinel, .sentinel, .sentinel, .sentinel, .sentinel, .sentinel, .sentinel, .sentinel, .data], laidTests := true, laidLooks := .later }
def NamesParseCardSaid : Prop := Claim7.holds Tryd.pinned (.plain (OpenSpec.ofChange namesParseSpec)) namesParseCard

/-- THE TIED CARD OF 'bullalaw09.NamesOrder'. -/
def namesOrderCard : Claim7 := { stood := { row := namesOrderRow, standIns := [], harness := (true, "b5609826ca87f831456ae3a4ac8e7092a140bd83ad3ba2c3b02126c94f9e26b3"), looks := true }, kinds := [], alts := [], laidByText := true, laidKinds := [.sentinel, .data], laidTests := true, laidLooks := .later }
def NamesOrderCardSaid : Prop := Claim7.holds Tryd.pinned (.plain (OpenSpec.ofChange namesOrderSpec)) namesOrderCard

/-- THE SECOND FORM's CARD OF 'bullalaw09.NamesParse'. -/
def namesParseUptoCard : Claim7 := { stood := { row := namesParseUptoRow, standIns := [], harness := (true, "b5609826ca87f831456ae3a4ac8e7092a140bd83ad3ba2c3b02126c94f9e26b3"), looks := true }, kinds := [], alts := [], laidByText := true, laidKinds := [.sentinel, .sentinel, .sentinel, .sentinel, .sentinel, .sentinel, .sentinel, .sentinel, .sentinel, .sentinel, .sentinel, .sentinel, .sentinel, .sentinel, .sentinel, .sentinel, .sentinel, .sentinel, .sentinel, .sentinel, .sentinel, .sentinel, .sentinel, .sentinel, .sentinel, .sentinel, .sentinel, .sentinel, .data], laidTests := true, laidLooks := .later }
def NamesParseUptoCardSaid : Prop := Claim7.holds Tryd.pinned (.plain (OpenSpec.upto namesParseSpec)) namesParseUptoCard

/-- THE SECOND FORM's CARD OF 'bullalaw09.NamesOrder'. -/
def namesOrderUptoCard : Claim7 := { stood := { row := namesOrderUptoRow, standIns := [], harness := (true, "b5609826ca87f831456ae3a4ac8e7092a140bd83ad3ba2c3b02126c94f9e26b3"), looks := true }, kinds := [], alts := [], laidByText := true, laidKinds := [.sentinel, .data], laidTests := true, laidLooks := .later }
def NamesOrderUptoCardSaid : Prop := Claim7.holds Tryd.pinned (.plain (OpenSpec.upto namesOrderSpec)) namesOrderUptoCard
end Rows
end Go.Proofs.YtepjjgplnmkjgaaDoor
