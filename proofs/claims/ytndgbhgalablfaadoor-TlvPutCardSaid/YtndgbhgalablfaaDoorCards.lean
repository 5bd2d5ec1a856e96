/-
  DERIVED. GIVEN WITH THE SEED: THE CARDS: each row of YtndgbhgalablfaaDoorRows.lean that lists a variable, with what it lists TIED to the program's text (the seventh form; the later family's looks); each row that meets fmt, with fmt's text TOLD by the authors' own Lean function (tested against real Go, not proved from fmt's source: count such statements apart). THE CARD IS WHAT COUNTS. Prove the row's statement (the work); the ties are given (YtndgbhgalablfaaDoorTie.lean); close each card by the builder's one call (the guide's Derived/Test/ToyasCard.lean, 'card_holds'). Laid BY PROGRAM, IN A SANDBOX (cutbox-door.mjs). By AI agents, Wed Nov 11 2026. No macro, syntax, notation, axiom, sorry.
-/
import Derived.Test.YtndgbhgalablfaaDoorRows
import GoSem.ClaimSeven
namespace Go.Proofs.YtndgbhgalablfaaDoor
namespace Rows

/-- THE TIED CARD OF 'bullalaw02.MacFrames'. -/
def macFramesCard : Claim7 := { stood := { row := macFramesRow, standIns := [], harness := (true, "f5a70d6f8522a0f74f2a6e943dd44ae9e3e1e9ad31a668e05df314f9ad4c5c46"), looks := true }, kinds := [], alts := [], laidByText := true, laidKinds := [.sentinel, .sentinel, .sentinel, .sentinel, .sentinel, .sentinel, .sentinel, .sentinel, .sentinel, .sentinel, .sentinel, .sentinel, .sentinel, .sentinel, .sentinel, .sentinel, .sentinel, .sentinel, .sentinel, .sentinel, .sentinel, .sentinel, .sentinel, .sentinel, .sentinel, .sentinel, .sentinel, .sentinel, .data, .data], laidTests := true, laidLooks := .later }
def MacFramesCardSaid : Prop := Claim7.holds Tryd.pinned (.plain (OpenSpec.ofChange macFramesSpec)) macFramesCard

/-- THE TIED CARD OF 'bullalaw02.MacNumbers'. -/
def macNumbersCard : Claim7 := { stood := { row := macNumbersRow, standIns := [], harness := (true, "f5a70d6f8522a0f74f2a6e943dd44ae9e3e1e9ad31a668e05df314f9ad4c5c46"), looks := true }, kinds := [], alts := [], laidByText := true, laidKinds := [.sentinel, .sentinel, .sentinel, .sentinel, .sentinel, .sentinel, .sentinel, .sentinel, .sentinel, .sentinel, .sentinel, .sentinel, .sentinel, .sentinel, .sentinel, .sentinel, .sentinel, .sentinel, .sentinel, .sentinel, .sentinel, .sentinel, .sentinel, .sentinel, .sentinel, .sentinel, .sentinel, .sentinel], laidTests := true, laidLooks := .later }
def MacNumbersCardSaid : Prop := Claim7.holds Tryd.pinned (.plain (OpenSpec.ofChange macNumbersSpec)) macNumbersCard

/-- THE TIED CARD OF 'bullalaw03.TlvPut'. -/
def tlvPutCard : Claim7 := { stood := { row := tlvPutRow, standIns := [], harness := (true, "f5a70d6f8522a0f74f2a6e943dd44ae9e3e1e9ad31a668e05df314f9ad4c5c46"), looks := true }, kinds := [], alts := [], laidByText := true, laidKinds := [.sentinel, .sentinel, .sentinel, .sentinel, .sentinel, .sentinel, .sentinel, .sentinel, .sentinel, .sentinel, .sentinel, .sentinel, .sentinel, .sentinel, .sentinel, .sentinel, .sentinel, .sentinel, .sentinel, .sentinel, .sentinel, .sentinel, .sentinel, .sentinel, .sentinel, .sentinel, .sentinel, .sentinel], laidTests := true, laidLooks := .later }
def TlvPutCardSaid : Prop := Claim7.holds Tryd.pinned (.plain (OpenSpec.ofChange tlvPutSpec)) tlvPutCard

/-- THE TIED CARD OF 'bullalaw03.TlvNests'. -/
def tlvNestsCard : Claim7 := { stood := { row := tlvNestsRow, standIns := [], harness := (true, "f5a70d6f8522a0f74f2a6e943dd44ae9e3e1e9ad31a668e05df314f9ad4c5c46"), looks := true }, kinds := [], alts := [], laidByText := true, laidKinds := [.sentinel, .sentinel, .sentinel, .sentinel, .sentinel, .sentinel, .sentinel, .sentinel, .sentinel, .sentinel, .sentinel, .sentinel, .sentinel, .sentinel, .sentinel, .sentinel, .sentinel, .sentinel, .sentinel, .sentinel, .sentinel, .sentinel, .sentinel, .sentinel, .sentinel, .sentinel, .sentinel, .sentinel], laidTests := true, laidLooks := .later }
def TlvNestsCardSaid : Prop := Claim7.holds Tryd.pinned (.plain (OpenSpec.ofChange tlvNestsSpec)) tlvNestsCard

/-- THE TIED CARD OF 'bullalaw03.TlvTags'. -/
def tlvTagsCard : Claim7 := { stood := { row := tlvTagsRow, standIns := [], harness := (true, "f5a70d6f8522a0f74f2a6e943dd44ae9e3e1e9ad31a668e05df314f9ad4c5c46"), looks := true }, kinds := [], alts := [], laidByText := true, laidKinds := [.sentinel, .sentinel, .sentinel, .sentinel, .sentinel, .sentinel, .sentinel, .sentinel, .sentinel, .sentinel, .sentinel, .sentinel, .sentinel, .sentinel, .sentinel, .sentinel, .sentinel, .sentinel, .sentinel, .sentinel, .sentinel, .sentinel, .sentinel, .sentinel, .sentinel, .sentinel, .sentinel, .sentinel], laidTests := true, laidLooks := .later }
def TlvTagsCardSaid : Prop := Claim7.holds Tryd.pinned (.plain (OpenSpec.ofChange tlvTagsSpec)) tlvTagsCard

/-- THE SECOND FORM's CARD OF 'bullalaw02.MacFrames'. -/
def macFramesUptoCard : Claim7 := { stood := { row := macFramesUptoRow, standIns := [], harness := (true, "f5a70d6f8522a0f74f2a6e943dd44ae9e3e1e9ad31a668e05df314f9ad4c5c46"), looks := true }, kinds := [], alts := [], laidByText := true, laidKinds := [.sentinel, .sentinel, .sentinel, .sentinel, .sentinel, .sentinel, .sentinel, .sentinel, .sentinel, .sentinel, .sentinel, .sentinel, .sentinel, .sentinel, .sentinel, .sentinel, .sentinel, .sentinel, .sentinel, .sentinel, .sentinel, .sentinel, .sentinel, .sentinel, .sentinel, .sentinel, .sentinel, .sentinel, .data, .data], laidTests := true, laidLooks := .later }
def MacFramesUptoCardSaid : Prop := Claim7.holds Tryd.pinned (.plain (OpenSpec.upto macFramesSpec)) macFramesUptoCard

/-- THE SECOND FORM's CARD OF 'bullalaw02.MacNumbers'. -/
def macNumbersUptoCard : Claim7 := { stood := { row := macNumbersUptoRow, standIns := [], harness := (true, "f5a70d6f8522a0f74f2a6e943dd44ae9e3e1e9ad31a668e05df314f9ad4c5c46"), looks := true }, kinds := [], alts := [], laidByText := true, laidKinds := [.sentinel, .sentinel, .sentinel, .sentinel, .sentinel, .sentinel, .sentinel, .sentinel, .sentinel, .sentinel, .sentinel, .sentinel, .sentinel, .sentinel, .sentinel, .sentinel, .sentinel, .sentinel, .sentinel, .sentinel, .sentinel, .sentinel, .sentinel, .sentinel, .sentinel, .sentinel, .sentinel, .sentinel], laidTests := true, laidLooks := .later }
def MacNumbersUptoCardSaid : Prop := Claim7.holds Tryd.pinned (.plain (OpenSpec.upto macNumbersSpec)) macNumbersUptoCard

/-- THE SECOND FORM's CARD OF 'bullalaw03.TlvPut'. -/
def tlvPutUptoCard : Claim7 := { stood := { row := tlvPutUptoRow, standIns := [], harness := (true, "f5a70d6f8522a0f74f2a6e943dd44ae9e3e1e9ad31a668e05df314f9ad4c5c46"), looks := true }, kinds := [], alts := [], laidByText := true, laidKinds := [.sentinel, .sentinel, .sentinel, .sentinel, .sentinel, .sentinel, .sentinel, .sentinel, .sentinel, .sentinel, .sentinel, .sentinel, .sentinel, .sentinel, .sentinel, .sentinel, .sentinel, .sentinel, .sentinel, .sentinel, .sentinel, .sentinel, .sentinel, .sentinel, .sentinel, .sentinel, .sentinel, .sentinel], laidTests := true, laidLooks := .later }
def TlvPutUptoCardSaid : Prop := Claim7.holds Tryd.pinned (.plain (OpenSpec.upto tlvPutSpec)) tlvPutUptoCard

/-- THE SECOND FORM's CARD OF 'bullalaw03.TlvNests'. -/
def tlvNestsUptoCard : Claim7 := { stood := { row := tlvNestsUptoRow, standIns := [], harness := (true, "f5a70d6f8522a0f74f2a6e943dd44ae9e3e1e9ad31a668e05df314f9ad4c5c46"), looks := true }, kinds := [], alts := [], laidByText := true, laidKinds := [.sentinel, .sentinel, .sentinel, .sentinel, .sentinel, .sentinel, .sentinel, .sentinel, .sentinel, .sentinel, .sentinel, .sentinel, .sentinel, .sentinel, .sentinel, .sentinel, .sentinel, .sentinel, .sentinel, .sentinel, .sentinel, .sentinel, .sentinel, .sentinel, .sentinel, .sentinel, .sentinel, .sentinel], laidTests := true, laidLooks := .later }
def TlvNestsUptoCardSaid : Prop := Claim7.holds Tryd.pinned (.plain (OpenSpec.upto tlvNestsSpec)) tlvNestsUptoCard

/-- THE SECOND FORM's CARD OF 'bullalaw03.TlvTags'. -/
def tlvTagsUptoCard : Claim7 := { stood := { row := tlvTagsUptoRow, standIns := [], harness := (true, "f5a70d6f8522a0f74f2a6e943dd44ae9e3e1e9ad31a668e05df314f9ad4c5c46"), looks := true }, kinds := [], alts := [], laidByText := true, laidKinds := [.sentinel, .sentinel, .sentinel, .sentinel, .sentinel, .sentinel, .sentinel, .sentinel, .sentinel, .sentinel, .sentinel, .sentinel, .sentinel, .sentinel, .sentinel, .sentinel, .sentinel, .sentinel, .sentinel, .sentinel, .sentinel, .sentinel, .sentinel, .sentinel, .sentinel, .sentinel, .sentinel, .sentinel], laidTests := true, laidLooks := .later }
def TlvTagsUptoCardSaid : Prop := Claim7.holds Tryd.pinned (.plain (OpenSpec.upto tlvTagsSpec)) tlvTagsUptoCard
end Rows
end Go.Proofs.YtndgbhgalablfaaDoor
