/-
  DERIVED. GIVEN WITH THE SEED: THE CARDS: each row of YtndjhhebmbmppaaDoorRows.lean that lists a variable, with what it lists TIED to the program's text (the seventh form; the later family's looks); each row that meets fmt, with fmt's text TOLD by the authors' own Lean function (tested against real Go, not proved from fmt's source: count such statements apart). THE CARD IS WHAT COUNTS. Prove the row's statement (the work); the ties are given (YtndjhhebmbmppaaDoorTie.lean); close each card by the builder's one call (the guide's Derived/Test/ToyasCard.lean, 'card_holds'). Laid BY PROGRAM, IN A SANDBOX (cutbox-door.mjs). By AI agents, Wed Nov 11 2026. No macro, syntax, notation, axiom, sorry.
-/
import Derived.Test.YtndjhhebmbmppaaDoorRows
import GoSem.ClaimSeven
namespace Go.Proofs.YtndjhhebmbmppaaDoor
namespace Rows

/-- THE TIED CARD OF 'bullalaw06.MomentsOf'. -/
def momentsOfCard : Claim7 := { stood := { row := momentsOfRow, standIns := [], harness := (true, "8e7749cc56b8cbe7cf76ae6ce555f957c84b5103da2a7a4261c8809aff54db04"), looks := true }, kinds := [], alts := [], laidByText := true, laidKinds := [.sentinel, .sentinel, .sentinel, .sentinel, .sentinel, .sentinel, .sentinel, .sentinel, .sentinel, .sentinel, .sentinel, .sentinel, .sentinel, .sentinel, .sentinel, .sentinel, .sentinel, .sentinel, .sentinel, .sentinel, .sentinel, .sentinel, .sentinel, .sentinel, .sentinel, .sentinel, .sentinel, .sentinel, .data], laidTests := true, laidLooks := .later }
def MomentsOfCardSaid : Prop := Claim7.holds Tryd.pinned (.plain (OpenSpec.ofChange momentsOfSpec)) momentsOfCard

/-- THE TIED CARD OF 'bullalaw06.MomentsSeconds'. -/
def momentsSecondsCard : Claim7 := { stood := { row := momentsSecondsRow, standIns := [], harness := (true, "8e7749cc56b8cbe7cf76ae6ce555f957c84b5103da2a7a4261c8809aff54db04"), looks := true }, kinds := [], alts := [], laidByText := true, laidKinds := [.sentinel, .sentinel, .sentinel, .sentinel, .sentinel, .sentinel, .sentinel, .sentinel, .sentinel, .sentinel, .sentinel, .sentinel, .sentinel, .sentinel, .sentinel, .sentinel, .sentinel, .sentinel, .sentinel, .sentinel, .sentinel, .sentinel, .sentinel, .sentinel, .sentinel, .sentinel, .sentinel, .sentinel, .data], laidTests := true, laidLooks := .later }
def MomentsSecondsCardSaid : Prop := Claim7.holds Tryd.pinned (.plain (OpenSpec.ofChange momentsSecondsSpec)) momentsSecondsCard

/-- THE TIED CARD OF 'bullalaw06.MomentsGet'. -/
def momentsGetCard : Claim7 := { stood := { row := momentsGetRow, standIns := [], harness := (true, "8e7749cc56b8cbe7cf76ae6ce555f957c84b5103da2a7a4261c8809aff54db04"), looks := true }, kinds := [], alts := [], laidByText := true, laidKinds := [.sentinel, .sentinel, .sentinel, .sentinel, .sentinel, .sentinel, .sentinel, .sentinel, .sentinel, .sentinel, .sentinel, .sentinel, .sentinel, .sentinel, .sentinel, .sentinel, .sentinel, .sentinel, .sentinel, .sentinel, .sentinel, .sentinel, .sentinel, .sentinel, .sentinel, .sentinel, .sentinel, .sentinel, .data], laidTests := true, laidLooks := .later }
def MomentsGetCardSaid : Prop := Claim7.holds Tryd.pinned (.plain (OpenSpec.ofChange momentsGetSpec)) momentsGetCard

/-- THE TIED CARD OF 'bullalaw06.MomentsAdd'. -/
def momentsAddCard : Claim7 := { stood := { row := momentsAddRow, standIns := [], harness := (true, "8e7749cc56b8cbe7cf76ae6ce555f957c84b5103da2a7a4261c8809aff54db04"), looks := true }, kinds := [], alts := [], laidByText := true, laidKinds := [.sentinel, .sentinel, .sentinel, .sentinel, .sentinel, .sentinel, .sentinel, .sentinel, .sentinel, .sentinel, .sentinel, .sentinel, .sentinel, .sentinel, .sentinel, .sentinel, .sentinel, .sentinel, .sentinel, .sentinel, .sentinel, .sentinel, .sentinel, .sentinel, .sentinel, .sentinel, .sentinel, .sentinel, .data], laidTests := true, laidLooks := .later }
def MomentsAddCardSaid : Prop := Claim7.holds Tryd.pinned (.plain (OpenSpec.ofChange momentsAddSpec)) momentsAddCard

/-- THE SECOND FORM's CARD OF 'bullalaw06.MomentsOf'. -/
def momentsOfUptoCard : Claim7 := { stood := { row := momentsOfUptoRow, standIns := [], harness := (true, "8e7749cc56b8cbe7cf76ae6ce555f957c84b5103da2a7a4261c8809aff54db04"), looks := true }, kinds := [], alts := [], laidByText := true, laidKinds := [.sentinel, .sentinel, .sentinel, .sentinel, .sentinel, .sentinel, .sentinel, .sentinel, .sentinel, .sentinel, .sentinel, .sentinel, .sentinel, .sentinel, .sentinel, .sentinel, .sentinel, .sentinel, .sentinel, .sentinel, .sentinel, .sentinel, .sentinel, .sentinel, .sentinel, .sentinel, .sentinel, .sentinel, .data], laidTests := true, laidLooks := .later }
def MomentsOfUptoCardSaid : Prop := Claim7.holds Tryd.pinned (.plain (OpenSpec.upto momentsOfSpec)) momentsOfUptoCard

/-- THE SECOND FORM's CARD OF 'bullalaw06.MomentsSeconds'. -/
def momentsSecondsUptoCard : Claim7 := { stood := { row := momentsSecondsUptoRow, standIns := [], harness := (true, "8e7749cc56b8cbe7cf76ae6ce555f957c84b5103da2a7a4261c8809aff54db04"), looks := true }, kinds := [], alts := [], laidByText := true, laidKinds := [.sentinel, .sentinel, .sentinel, .sentinel, .sentinel, .sentinel, .sentinel, .sentinel, .sentinel, .sentinel, .sentinel, .sentinel, .sentinel, .sentinel, .sentinel, .sentinel, .sentinel, .sentinel, .sentinel, .sentinel, .sentinel, .sentinel, .sentinel, .sentinel, .sentinel, .sentinel, .sentinel, .sentinel, .data], laidTests := true, laidLooks := .later }
def MomentsSecondsUptoCardSaid : Prop := Claim7.holds Tryd.pinned (.plain (OpenSpec.upto momentsSecondsSpec)) momentsSecondsUptoCard

/-- THE SECOND FORM's CARD OF 'bullalaw06.MomentsGet'. -/
def momentsGetUptoCard : Claim7 := { stood := { row := momentsGetUptoRow, standIns := [], harness := (true, "8e7749cc56b8cbe7cf76ae6ce555f957c84b5103da2a7a4261c8809aff54db04"), looks := true }, kinds := [], alts := [], laidByText := true, laidKinds := [.sentinel, .sentinel, .sentinel, .sentinel, .sentinel, .sentinel, .sentinel, .sentinel, .sentinel, .sentinel, .sentinel, .sentinel, .sentinel, .sentinel, .sentinel, .sentinel, .sentinel, .sentinel, .sentinel, .sentinel, .sentinel, .sentinel, .sentinel, .sentinel, .sentinel, .sentinel, .sentinel, .sentinel, .data], laidTests := true, laidLooks := .later }
def MomentsGetUptoCardSaid : Prop := Claim7.holds Tryd.pinned (.plain (OpenSpec.upto momentsGetSpec)) momentsGetUptoCard

/-- THE SECOND FORM's CARD OF 'bullalaw06.MomentsAdd'. -/
def momentsAddUptoCard : Claim7 := { stood := { row := momentsAddUptoRow, standIns := [], harness := (true, "8e7749cc56b8cbe7cf76ae6ce555f957c84b5103da2a7a4261c8809aff54db04"), looks := true }, kinds := [], alts := [], laidByText := true, laidKinds := [.sentinel, .sentinel, .sentinel, .sentinel, .sentinel, .sentinel, .sentinel, .sentinel, .sentinel, .sentinel, .sentinel, .sentinel, .sentinel, .sentinel, .sentinel, .sentinel, .sentinel, .sentinel, .sentinel, .sentinel, .sentinel, .sentinel, .sentinel, .sentinel, .sentinel, .sentinel, .sentinel, .sentinel, .data], laidTests := true, laidLooks := .later }
def MomentsAddUptoCardSaid : Prop := Claim7.holds Tryd.pinned (.plain (OpenSpec.upto momentsAddSpec)) momentsAddUptoCard
end Rows
end Go.Proofs.YtndjhhebmbmppaaDoor
