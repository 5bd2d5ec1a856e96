/-
  DERIVED. GIVEN WITH THE SEED: THE CARDS: each row of YtibjjnkoceighaaDoorRows.lean that lists a variable, with what it lists TIED to the program's text (the seventh form; the later family's looks); each row that meets fmt, with fmt's text TOLD by the authors' own Lean function (tested against real Go, not proved from fmt's source: count such statements apart). THE CARD IS WHAT COUNTS. Prove the row's statement (the work); the ties are given (YtibjjnkoceighaaDoorTie.lean); close each card by the builder's one call (the guide's Derived/Test/ToyasCard.lean, 'card_holds'). Laid BY PROGRAM, IN A SANDBOX (cutbox-door.mjs). By AI agents, Wed Nov 11 2026. No macro, syntax, notation, axiom, sorry.
-/
import Derived.Test.YtibjjnkoceighaaDoorRows
import GoSem.ClaimSeven
namespace Go.Proofs.YtibjjnkoceighaaDoor
namespace Rows

/-- THE TIED CARD OF 'bullalaw01.ShaSum'. -/
def shaSumCard : Claim7 := { stood := { row := shaSumRow, standIns := [], harness := (true, "255ec62a6ed8387d57c81fa7c01427e5270fe6027eaa9cf27e8bb5eebdb1dc21"), looks := false }, kinds := [], alts := [], laidByText := true, laidKinds := [.data, .data], laidTests := true, laidLooks := .later }
def ShaSumCardSaid : Prop := Claim7.holds Tryd.pinned (.plain (OpenSpec.ofChange shaSumSpec)) shaSumCard

/-- THE TIED CARD OF 'bullalaw01.ShaHash'. -/
def shaHashCard : Claim7 := { stood := { row := shaHashRow, standIns := [], harness := (true, "255ec62a6ed8387d57c81fa7c01427e5270fe6027eaa9cf27e8bb5eebdb1dc21"), looks := false }, kinds := [], alts := [], laidByText := true, laidKinds := [.data, .data], laidTests := true, laidLooks := .later }
def ShaHashCardSaid : Prop := Claim7.holds Tryd.pinned (.plain (OpenSpec.ofChange shaHashSpec)) shaHashCard

/-- THE TIED CARD OF 'bullalaw01.ShaConstants'. -/
def shaConstantsCard : Claim7 := { stood := { row := shaConstantsRow, standIns := [], harness := (true, "255ec62a6ed8387d57c81fa7c01427e5270fe6027eaa9cf27e8bb5eebdb1dc21"), looks := false }, kinds := [], alts := [], laidByText := true, laidKinds := [.data, .data], laidTests := true, laidLooks := .later }
def ShaConstantsCardSaid : Prop := Claim7.holds Tryd.pinned (.plain (OpenSpec.ofChange shaConstantsSpec)) shaConstantsCard

/-- THE SECOND FORM's CARD OF 'bullalaw01.ShaSum'. -/
def shaSumUptoCard : Claim7 := { stood := { row := shaSumUptoRow, standIns := [], harness := (true, "255ec62a6ed8387d57c81fa7c01427e5270fe6027eaa9cf27e8bb5eebdb1dc21"), looks := false }, kinds := [], alts := [], laidByText := true, laidKinds := [.data, .data], laidTests := true, laidLooks := .later }
def ShaSumUptoCardSaid : Prop := Claim7.holds Tryd.pinned (.plain (OpenSpec.upto shaSumSpec)) shaSumUptoCard

/-- THE SECOND FORM's CARD OF 'bullalaw01.ShaHash'. -/
def shaHashUptoCard : Claim7 := { stood := { row := shaHashUptoRow, standIns := [], harness := (true, "255ec62a6ed8387d57c81fa7c01427e5270fe6027eaa9cf27e8bb5eebdb1dc21"), looks := false }, kinds := [], alts := [], laidByText := true, laidKinds := [.data, .data], laidTests := true, laidLooks := .later }
def ShaHashUptoCardSaid : Prop := Claim7.holds Tryd.pinned (.plain (OpenSpec.upto shaHashSpec)) shaHashUptoCard

/-- THE SECOND FORM's CARD OF 'bullalaw01.ShaConstants'. -/
def shaConstantsUptoCard : Claim7 := { stood := { row := shaConstantsUptoRow, standIns := [], harness := (true, "255ec62a6ed8387d57c81fa7c01427e5270fe6027eaa9cf27e8bb5eebdb1dc21"), looks := false }, kinds := [], alts := [], laidByText := true, laidKinds := [.data, .data], laidTests := true, laidLooks := .later }
def ShaConstantsUptoCardSaid : Prop := Claim7.holds Tryd.pinned (.plain (OpenSpec.upto shaConstantsSpec)) shaConstantsUptoCard
end Rows
end Go.Proofs.YtibjjnkoceighaaDoor
