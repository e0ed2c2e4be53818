/-
  DERIVED. GIVEN WITH THE SEED: THE CARDS: each row of YtkmldgcnbjjbcaaGreatDoorRows.lean that lists a variable, with what it lists TIED to the program's text (the seventh form; the later family's looks); each row that meets fmt, with fmt's text TOLD by the authors' own Lean function (tested against real Go, not proved from fmt's source: count such statements apart). THE CARD IS WHAT COUNTS. Prove the row's statement (the work); the ties are given (YtkmldgcnbjjbcaaGreatDoorTie.lean); close each card by the builder's one call (the guide's Derived/Test/ToyasCard.lean, 'card_holds'). Laid BY PROGRAM, IN A SANDBOX (cutbox-door.mjs). By AI agents, Wed Nov 11 2026. No macro, syntax, notation, axiom, sorry.
-/
import Derived.Test.YtkmldgcnbjjbcaaGreatDoorRows
import GoSem.ClaimSeven
namespace Go.Proofs.YtkmldgcnbjjbcaaGreatDoor
namespace Rows

/-- THE TIED CARD OF 'usufructlaw14.SagaDoes'. -/
def sagaDoesCard : Claim7 := { stood := { row := sagaDoesRow, standIns := [], harness := (true, "95fcb30181c2fddb3757e3bcc51787173124c3ad2d4ae200570d182dbcb688ae"), looks := false }, kinds := [], alts := [], laidByText := true, laidKinds := [.data, .data, .data], laidTests := true, laidLooks := .later }
def SagaDoesCardSaid : Prop := Claim7.holds Tryz.pinned (.plain (OpenSpec.ofChange sagaDoesSpec)) sagaDoesCard

/-- THE TIED CARD OF 'usufructlaw14.SagaPlays'. -/
def sagaPlaysCard : Claim7 := { stood := { row := sagaPlaysRow, standIns := [], harness := (true, "95fcb30181c2fddb3757e3bcc51787173124c3ad2d4ae200570d182dbcb688ae"), looks := false }, kinds := [], alts := [], laidByText := true, laidKinds := [.data, .data, .data], laidTests := true, laidLooks := .later }
def SagaPlaysCardSaid : Prop := Claim7.holds Tryz.pinned (.plain (OpenSpec.ofChange sagaPlaysSpec)) sagaPlaysCard

/-- THE SECOND FORM's CARD OF 'usufructlaw14.SagaDoes'. -/
def sagaDoesUptoCard : Claim7 := { stood := { row := sagaDoesUptoRow, standIns := [], harness := (true, "95fcb30181c2fddb3757e3bcc51787173124c3ad2d4ae200570d182dbcb688ae"), looks := false }, kinds := [], alts := [], laidByText := true, laidKinds := [.data, .data, .data], laidTests := true, laidLooks := .later }
def SagaDoesUptoCardSaid : Prop := Claim7.holds Tryz.pinned (.plain (OpenSpec.upto sagaDoesSpec)) sagaDoesUptoCard

/-- THE SECOND FORM's CARD OF 'usufructlaw14.SagaPlays'. -/
def sagaPlaysUptoCard : Claim7 := { stood := { row := sagaPlaysUptoRow, standIns := [], harness := (true, "95fcb30181c2fddb3757e3bcc51787173124c3ad2d4ae200570d182dbcb688ae"), looks := false }, kinds := [], alts := [], laidByText := true, laidKinds := [.data, .data, .data], laidTests := true, laidLooks := .later }
def SagaPlaysUptoCardSaid : Prop := Claim7.holds Tryz.pinned (.plain (OpenSpec.upto sagaPlaysSpec)) sagaPlaysUptoCard
end Rows
end Go.Proofs.YtkmldgcnbjjbcaaGreatDoor
