/-
  DERIVED. GIVEN WITH THE SEED: THE CARDS: each row of YtjjbkpjjmbfdhaaGreatDoorRows.lean that lists a variable, with what it lists TIED to the program's text (the seventh form; the later family's looks); each row that meets fmt, with fmt's text TOLD by the authors' own Lean function (tested against real Go, not proved from fmt's source: count such statements apart). THE CARD IS WHAT COUNTS. Prove the row's statement (the work); the ties are given (YtjjbkpjjmbfdhaaGreatDoorTie.lean); close each card by the builder's one call (the guide's Derived/Test/ToyasCard.lean, 'card_holds'). Laid BY PROGRAM, IN A SANDBOX (cutbox-door.mjs). By AI agents, Wed Nov 11 2026. No macro, syntax, notation, axiom, sorry.
-/
import Derived.Test.YtjjbkpjjmbfdhaaGreatDoorRows
import GoSem.ClaimSeven
namespace Go.Proofs.YtjjbkpjjmbfdhaaGreatDoor
namespace Rows

/-- THE TIED CARD OF 'bullalaw13.BundleBytes'. -/
def bundleBytesCard : Claim7 := { stood := { row := bundleBytesRow, standIns := [], harness := (true, "f126255c5b77f22ca9984b15c59210009eb9904131b84ec0bbc02a9673bb170f"), looks := true }, kinds := [], alts := [], laidByText := true, laidKinds := [.data, .sentinel, .sentinel, .sentinel, .sentinel, .sentinel, .sentinel, .sentinel, .sentinel, .sentinel, .sentinel, .sentinel, .sentinel, .sentinel, .sentinel, .sentinel, .sentinel, .sentinel, .sentinel, .sentinel, .sentinel, .sentinel, .sentinel, .sentinel, .sentinel, .sentinel, .sentinel, .sentinel, .sentinel, .data, .pinned], laidTests := true, laidLooks := .later }
def BundleBytesCardSaid : Prop := Claim7.holds Tryz.pinned (.plain (OpenSpec.ofChange bundleBytesSpec)) bundleBytesCard

/-- THE SECOND FORM's CARD OF 'bullalaw13.BundleBytes'. -/
def bundleBytesUptoCard : Claim7 := { stood := { row := bundleBytesUptoRow, standIns := [], harness := (true, "f126255c5b77f22ca9984b15c59210009eb9904131b84ec0bbc02a9673bb170f"), looks := true }, kinds := [], alts := [], laidByText := true, laidKinds := [.data, .sentinel, .sentinel, .sentinel, .sentinel, .sentinel, .sentinel, .sentinel, .sentinel, .sentinel, .sentinel, .sentinel, .sentinel, .sentinel, .sentinel, .sentinel, .sentinel, .sentinel, .sentinel, .sentinel, .sentinel, .sentinel, .sentinel, .sentinel, .sentinel, .sentinel, .sentinel, .sentinel, .sentinel, .data, .pinned], laidTests := true, laidLooks := .later }
def BundleBytesUptoCardSaid : Prop := Claim7.holds Tryz.pinned (.plain (OpenSpec.upto bundleBytesSpec)) bundleBytesUptoCard
end Rows
end Go.Proofs.YtjjbkpjjmbfdhaaGreatDoor
