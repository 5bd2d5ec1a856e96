/-
  DERIVED. GIVEN WITH THE SEED: THE CARDS: each row of YtpjhkmdlegjdaaaDoorRows.lean that lists a variable, with what it lists TIED to the program's text (the seventh form; the later family's looks); each row that meets fmt, with fmt's text TOLD by the authors' own Lean function (tested against real Go, not proved from fmt's source: count such statements apart). THE CARD IS WHAT COUNTS. Prove the row's statement (the work); the ties are given (YtpjhkmdlegjdaaaDoorTie.lean); close each card by the builder's one call (the guide's Derived/Test/ToyasCard.lean, 'card_holds'). Laid BY PROGRAM, IN A SANDBOX (cutbox-door.mjs). By AI agents, Wed Nov 11 2026. No macro, syntax, notation, axiom, sorry.
-/
import Derived.Test.YtpjhkmdlegjdaaaDoorRows
import GoSem.ClaimSeven
namespace Go.Proofs.YtpjhkmdlegjdaaaDoor
namespace Rows

/-- THE TIED CARD OF 'bullalaw05.OidsParse'. -/
def oidsParseCard : Claim7 := { stood := { row := oidsParseRow, standIns := [], harness := (true, "efe2986a0bf3729449b32d2568283acef8341571e4d2ab10f21dbc6ac60838b0"), looks := true }, kinds := [], alts := [], laidByText := true, laidKinds := [.data, .data, .data, .data, .sentinel, .sentinel, .sentinel, .sentinel, .sentinel, .sentinel, .sentinel, .sentinel, .sentinel, .sentinel, .sentinel, .sentinel, .sentinel, .sentinel, .sentinel, .sentinel, .sentinel, .sentinel, .sentinel, .sentinel, .sentinel, .sentinel, .sentinel, .sentinel, .sentinel, .sentinel, .sentinel, .sentinel, .sentinel, .sentinel, .pinned], laidTests := true, laidLooks := .later }
def OidsParseCardSaid : Prop := Claim7.holds Tryd.pinned (.plain (OpenSpec.ofChange oidsParseSpec)) oidsParseCard

/-- THE TIED CARD OF 'bullalaw05.OidsText'. -/
def oidsTextCard : Claim7 := { stood := { row := oidsTextRow, standIns := [], harness := (true, "efe2986a0bf3729449b32d2568283acef8341571e4d2ab10f21dbc6ac60838b0"), looks := true }, kinds := [], alts := [], laidByText := true, laidKinds := [.data, .data, .data, .data, .sentinel, .sentinel, .sentinel, .sentinel, .sentinel, .sentinel, .sentinel, .sentinel, .sentinel, .sentinel, .sentinel, .sentinel, .sentinel, .sentinel, .sentinel, .sentinel, .sentinel, .sentinel, .sentinel, .sentinel, .sentinel, .sentinel, .sentinel, .sentinel, .sentinel, .sentinel, .sentinel, .sentinel, .sentinel, .sentinel, .pinned], laidTests := true, laidLooks := .later }
def OidsTextCardSaid : Prop := Claim7.holds Tryd.pinned (.plain (OpenSpec.ofChange oidsTextSpec)) oidsTextCard

/-- THE TIED CARD OF 'bullalaw05.OidsOrder'. -/
def oidsOrderCard : Claim7 := { stood := { row := oidsOrderRow, standIns := [], harness := (true, "efe2986a0bf3729449b32d2568283acef8341571e4d2ab10f21dbc6ac60838b0"), looks := true }, kinds := [], alts := [], laidByText := true, laidKinds := [.data, .data, .data, .data, .sentinel, .sentinel, .sentinel, .sentinel, .pinned], laidTests := true, laidLooks := .later }
def OidsOrderCardSaid : Prop := Claim7.holds Tryd.pinned (.plain (OpenSpec.ofChange oidsOrderSpec)) oidsOrderCard

/-- THE SECOND FORM's CARD OF 'bullalaw05.OidsParse'. -/
def oidsParseUptoCard : Claim7 := { stood := { row := oidsParseUptoRow, standIns := [], harness := (true, "efe2986a0bf3729449b32d2568283acef8341571e4d2ab10f21dbc6ac60838b0"), looks := true }, kinds := [], alts := [], laidByText := true, laidKinds := [.data, .data, .data, .data, .sentinel, .sentinel, .sentinel, .sentinel, .sentinel, .sentinel, .sentinel, .sentinel, .sentinel, .sentinel, .sentinel, .sentinel, .sentinel, .sentinel, .sentinel, .sentinel, .sentinel, .sentinel, .sentinel, .sentinel, .sentinel, .sentinel, .sentinel, .sentinel, .sentinel, .sentinel, .sentinel, .sentinel, .sentinel, .sentinel, .pinned], laidTests := true, laidLooks := .later }
def OidsParseUptoCardSaid : Prop := Claim7.holds Tryd.pinned (.plain (OpenSpec.upto oidsParseSpec)) oidsParseUptoCard

/-- THE SECOND FORM's CARD OF 'bullalaw05.OidsText'. -/
def oidsTextUptoCard : Claim7 := { stood := { row := oidsTextUptoRow, standIns := [], harness := (true, "efe2986a0bf3729449b32d2568283acef8341571e4d2ab10f21dbc6ac60838b0"), looks := true }, kinds := [], alts := [], laidByText := true, laidKinds := [.data, .data, .data, .data, .sentinel, .sentinel, .sentinel, .sentinel, .sentinel, .sentinel, .sentinel, .sentinel, .sentinel, .sentinel, .sentinel, .sentinel, .sentinel, .sentinel, .sentinel, .sentinel, .sentinel, .sentinel, .sentinel, .sentinel, .sentinel, .sentinel, .sentinel, .sentinel, .sentinel, .sentinel, .sentinel, .sentinel, .sentinel, .sentinel, .pinned], laidTests := true, laidLooks := .later }
def OidsTextUptoCardSaid : Prop := Claim7.holds Tryd.pinned (.plain (OpenSpec.upto oidsTextSpec)) oidsTextUptoCard

/-- THE SECOND FORM's CARD OF 'bullalaw05.OidsOrder'. -/
def oidsOrderUptoCard : Claim7 := { stood := { row := oidsOrderUptoRow, standIns := [], harness := (true, "efe2986a0bf3729449b32d2568283acef8341571e4d2ab10f21dbc6ac60838b0"), looks := true }, kinds := [], alts := [], laidByText := true, laidKinds := [.data, .data, .data, .data, .sentinel, .sentinel, .sentinel, .sentinel, .pinned], laidTests := true, laidLooks := .later }
def OidsOrderUptoCardSaid : Prop := Claim7.holds Tryd.pinned (.plain (OpenSpec.upto oidsOrderSpec)) oidsOrderUptoCard
end Rows
end Go.Proofs.YtpjhkmdlegjdaaaDoor
