/-
  DERIVED. GIVEN WITH THE SEED: THE CARDS: each row of YtbneggdfbkebcaaDoorRows.lean that lists a variable, with what it lists TIED to the program's text (the seventh form; the later family's looks); each row that meets fmt, with fmt's text TOLD by the authors' own Lean function (tested against real Go, not proved from fmt's source: count such statements apart). THE CARD IS WHAT COUNTS. Prove the row's statement (the work); the ties are given (YtbneggdfbkebcaaDoorTie.lean); close each card by the builder's one call (the guide's Derived/Test/ToyasCard.lean, 'card_holds'). Laid BY PROGRAM, IN A SANDBOX (cutbox-door.mjs). By AI agents, Wed Nov 11 2026. No macro, syntax, notation, axiom, sorry.
-/
import Derived.Test.YtbneggdfbkebcaaDoorRows
import GoSem.ClaimSeven
namespace Go.Proofs.YtbneggdfbkebcaaDoor
namespace Rows

/-- THE TIED CARD OF 'bullalaw07.TextsPut'. -/
def textsPutCard : Claim7 := { stood := { row := textsPutRow, standIns := [], harness := (true, "8e73f40911f89b8d35f8a2bccf2650e3108143106849e5445d77abf223e80bc8"), looks := true }, kinds := [], alts := [], laidByText := true, laidKinds := [.data, .sentinel, .sentinel, .sentinel, .sentinel, .sentinel, .sentinel, .sentinel, .sentinel, .sentinel, .sentinel, .sentinel, .sentinel, .sentinel, .sentinel, .sentinel, .sentinel, .sentinel, .sentinel, .sentinel, .sentinel, .sentinel, .sentinel, .sentinel, .sentinel, .sentinel, .sentinel, .sentinel, .sentinel, .pinned], laidTests := true, laidLooks := .later }
def TextsPutCardSaid : Prop := Claim7.holds Tryd.pinned (.plain (OpenSpec.ofChange textsPutSpec)) textsPutCard

/-- THE TIED CARD OF 'bullalaw07.TextsFlags'. -/
def textsFlagsCard : Claim7 := { stood := { row := textsFlagsRow, standIns := [], harness := (true, "8e73f40911f89b8d35f8a2bccf2650e3108143106849e5445d77abf223e80bc8"), looks := true }, kinds := [], alts := [], laidByText := true, laidKinds := [.sentinel, .sentinel, .sentinel, .sentinel, .sentinel, .sentinel, .sentinel, .sentinel, .sentinel, .sentinel, .sentinel, .sentinel, .sentinel, .sentinel, .sentinel, .sentinel, .sentinel, .sentinel, .sentinel, .sentinel, .sentinel, .sentinel, .sentinel, .sentinel, .sentinel, .sentinel, .sentinel, .sentinel], laidTests := true, laidLooks := .later }
def TextsFlagsCardSaid : Prop := Claim7.holds Tryd.pinned (.plain (OpenSpec.ofChange textsFlagsSpec)) textsFlagsCard

/-- THE TIED CARD OF 'bullalaw07.TextsMask'. -/
def textsMaskCard : Claim7 := { stood := { row := textsMaskRow, standIns := [], harness := (true, "8e73f40911f89b8d35f8a2bccf2650e3108143106849e5445d77abf223e80bc8"), looks := true }, kinds := [], alts := [], laidByText := true, laidKinds := [.sentinel, .sentinel, .sentinel, .sentinel, .sentinel, .sentinel, .sentinel, .sentinel, .sentinel, .sentinel, .sentinel, .sentinel, .sentinel, .sentinel, .sentinel, .sentinel, .sentinel, .sentinel, .sentinel, .sentinel, .sentinel, .sentinel, .sentinel, .sentinel, .sentinel, .sentinel, .sentinel, .sentinel], laidTests := true, laidLooks := .later }
def TextsMaskCardSaid : Prop := Claim7.holds Tryd.pinned (.plain (OpenSpec.ofChange textsMaskSpec)) textsMaskCard

/-- THE TIED CARD OF 'bullalaw07.TextsSet'. -/
def textsSetCard : Claim7 := { stood := { row := textsSetRow, standIns := [], harness := (true, "8e73f40911f89b8d35f8a2bccf2650e3108143106849e5445d77abf223e80bc8"), looks := true }, kinds := [], alts := [], laidByText := true, laidKinds := [.sentinel], laidTests := true, laidLooks := .later }
def TextsSetCardSaid : Prop := Claim7.holds Tryd.pinned (.plain (OpenSpec.ofChange textsSetSpec)) textsSetCard

/-- THE SECOND FORM's CARD OF 'bullalaw07.TextsPut'. -/
def textsPutUptoCard : Claim7 := { stood := { row := textsPutUptoRow, standIns := [], harness := (true, "8e73f40911f89b8d35f8a2bccf2650e3108143106849e5445d77abf223e80bc8"), looks := true }, kinds := [], alts := [], laidByText := true, laidKinds := [.data, .sentinel, .sentinel, .sentinel, .sentinel, .sentinel, .sentinel, .sentinel, .sentinel, .sentinel, .sentinel, .sentinel, .sentinel, .sentinel, .sentinel, .sentinel, .sentinel, .sentinel, .sentinel, .sentinel, .sentinel, .sentinel, .sentinel, .sentinel, .sentinel, .sentinel, .sentinel, .sentinel, .sentinel, .pinned], laidTests := true, laidLooks := .later }
def TextsPutUptoCardSaid : Prop := Claim7.holds Tryd.pinned (.plain (OpenSpec.upto textsPutSpec)) textsPutUptoCard

/-- THE SECOND FORM's CARD OF 'bullalaw07.TextsFlags'. -/
def textsFlagsUptoCard : Claim7 := { stood := { row := textsFlagsUptoRow, standIns := [], harness := (true, "8e73f40911f89b8d35f8a2bccf2650e3108143106849e5445d77abf223e80bc8"), looks := true }, kinds := [], alts := [], laidByText := true, laidKinds := [.sentinel, .sentinel, .sentinel, .sentinel, .sentinel, .sentinel, .sentinel, .sentinel, .sentinel, .sentinel, .sentinel, .sentinel, .sentinel, .sentinel, .sentinel, .sentinel, .sentinel, .sentinel, .sentinel, .sentinel, .sentinel, .sentinel, .sentinel, .sentinel, .sentinel, .sentinel, .sentinel, .sentinel], laidTests := true, laidLooks := .later }
def TextsFlagsUptoCardSaid : Prop := Claim7.holds Tryd.pinned (.plain (OpenSpec.upto textsFlagsSpec)) textsFlagsUptoCard

/-- THE SECOND FORM's CARD OF 'bullalaw07.TextsMask'. -/
def textsMaskUptoCard : Claim7 := { stood := { row := textsMaskUptoRow, standIns := [], harness := (true, "8e73f40911f89b8d35f8a2bccf2650e3108143106849e5445d77abf223e80bc8"), looks := true }, kinds := [], alts := [], laidByText := true, laidKinds := [.sentinel, .sentinel, .sentinel, .sentinel, .sentinel, .sentinel, .sentinel, .sentinel, .sentinel, .sentinel, .sentinel, .sentinel, .sentinel, .sentinel, .sentinel, .sentinel, .sentinel, .sentinel, .sentinel, .sentinel, .sentinel, .sentinel, .sentinel, .sentinel, .sentinel, .sentinel, .sentinel, .sentinel], laidTests := true, laidLooks := .later }
def TextsMaskUptoCardSaid : Prop := Claim7.holds Tryd.pinned (.plain (OpenSpec.upto textsMaskSpec)) textsMaskUptoCard

/-- THE SECOND FORM's CARD OF 'bullalaw07.TextsSet'. -/
def textsSetUptoCard : Claim7 := { stood := { row := textsSetUptoRow, standIns := [], harness := (true, "8e73f40911f89b8d35f8a2bccf2650e3108143106849e5445d77abf223e80bc8"), looks := true }, kinds := [], alts := [], laidByText := true, laidKinds := [.sentinel], laidTests := true, laidLooks := .later }
def TextsSetUptoCardSaid : Prop := Claim7.holds Tryd.pinned (.plain (OpenSpec.upto textsSetSpec)) textsSetUptoCard
end Rows
end Go.Proofs.YtbneggdfbkebcaaDoor
