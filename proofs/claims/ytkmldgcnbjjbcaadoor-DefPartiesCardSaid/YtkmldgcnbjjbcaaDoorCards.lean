/-
  DERIVED. GIVEN WITH THE SEED: THE CARDS: each row of YtkmldgcnbjjbcaaDoorRows.lean that lists a variable, with what it lists TIED to the program's text (the seventh form; the later family's looks); each row that meets fmt, with fmt's text TOLD by the authors' own Lean function (tested against real Go, not proved from fmt's source: count such statements apart). THE CARD IS WHAT COUNTS. Prove the row's statement (the work); the ties are given (YtkmldgcnbjjbcaaDoorTie.lean); close each card by the builder's one call (the guide's Derived/Test/ToyasCard.lean, 'card_holds'). Laid BY PROGRAM, IN A SANDBOX (cutbox-door.mjs). By AI agents, Wed Nov 11 2026. No macro, syntax, notation, axiom, sorry.
-/
import Derived.Test.YtkmldgcnbjjbcaaDoorRows
import GoSem.ClaimSeven
namespace Go.Proofs.YtkmldgcnbjjbcaaDoor
namespace Rows

/-- THE TIED CARD OF 'usufructlaw13.DefChecks'. -/
def defChecksCard : Claim7 := { stood := { row := defChecksRow, standIns := [], harness := (true, "342cf7d5447fa85154afb58fd3409d7093d70d887369711c471a742781c9b135"), looks := false }, kinds := [], alts := [], laidByText := true, laidKinds := [.data, .data, .data, .data, .pinned], laidTests := true, laidLooks := .later }
def DefChecksCardSaid : Prop := Claim7.holds Tryd.pinned (.plain (OpenSpec.ofChange defChecksSpec)) defChecksCard

/-- THE TIED CARD OF 'usufructlaw13.DefKeys'. -/
def defKeysCard : Claim7 := { stood := { row := defKeysRow, standIns := [], harness := (true, "342cf7d5447fa85154afb58fd3409d7093d70d887369711c471a742781c9b135"), looks := false }, kinds := [], alts := [], laidByText := true, laidKinds := [.data, .data, .data, .data, .pinned], laidTests := true, laidLooks := .later }
def DefKeysCardSaid : Prop := Claim7.holds Tryd.pinned (.plain (OpenSpec.ofChange defKeysSpec)) defKeysCard

/-- THE TIED CARD OF 'usufructlaw13.DefParties'. -/
def defPartiesCard : Claim7 := { stood := { row := defPartiesRow, standIns := [], harness := (true, "342cf7d5447fa85154afb58fd3409d7093d70d887369711c471a742781c9b135"), looks := false }, kinds := [], alts := [], laidByText := true, laidKinds := [.data, .data, .data, .data, .pinned], laidTests := true, laidLooks := .later }
def DefPartiesCardSaid : Prop := Claim7.holds Tryd.pinned (.plain (OpenSpec.ofChange defPartiesSpec)) defPartiesCard

/-- THE TIED CARD OF 'usufructlaw13.DefOwns'. -/
def defOwnsCard : Claim7 := { stood := { row := defOwnsRow, standIns := [], harness := (true, "342cf7d5447fa85154afb58fd3409d7093d70d887369711c471a742781c9b135"), looks := false }, kinds := [], alts := [], laidByText := true, laidKinds := [.data, .data, .data, .data, .pinned], laidTests := true, laidLooks := .later }
def DefOwnsCardSaid : Prop := Claim7.holds Tryd.pinned (.plain (OpenSpec.ofChange defOwnsSpec)) defOwnsCard

/-- THE TIED CARD OF 'usufructlaw14.SagaStays'. -/
def sagaStaysCard : Claim7 := { stood := { row := sagaStaysRow, standIns := [], harness := (true, "342cf7d5447fa85154afb58fd3409d7093d70d887369711c471a742781c9b135"), looks := false }, kinds := [], alts := [], laidByText := true, laidKinds := [.data, .data, .data], laidTests := true, laidLooks := .later }
def SagaStaysCardSaid : Prop := Claim7.holds Tryd.pinned (.plain (OpenSpec.ofChange sagaStaysSpec)) sagaStaysCard

/-- THE TIED CARD OF 'usufructlaw14.SagaDue'. -/
def sagaDueCard : Claim7 := { stood := { row := sagaDueRow, standIns := [], harness := (true, "342cf7d5447fa85154afb58fd3409d7093d70d887369711c471a742781c9b135"), looks := false }, kinds := [], alts := [], laidByText := true, laidKinds := [.data, .data, .data], laidTests := true, laidLooks := .later }
def SagaDueCardSaid : Prop := Claim7.holds Tryd.pinned (.plain (OpenSpec.ofChange sagaDueSpec)) sagaDueCard

/-- THE TIED CARD OF 'usufructlaw14.SagaCarries'. -/
def sagaCarriesCard : Claim7 := { stood := { row := sagaCarriesRow, standIns := [], harness := (true, "342cf7d5447fa85154afb58fd3409d7093d70d887369711c471a742781c9b135"), looks := false }, kinds := [], alts := [], laidByText := true, laidKinds := [.data, .data, .data], laidTests := true, laidLooks := .later }
def SagaCarriesCardSaid : Prop := Claim7.holds Tryd.pinned (.plain (OpenSpec.ofChange sagaCarriesSpec)) sagaCarriesCard

/-- THE SECOND FORM's CARD OF 'usufructlaw13.DefChecks'. -/
def defChecksUptoCard : Claim7 := { stood := { row := defChecksUptoRow, standIns := [], harness := (true, "342cf7d5447fa85154afb58fd3409d7093d70d887369711c471a742781c9b135"), looks := false }, kinds := [], alts := [], laidByText := true, laidKinds := [.data, .data, .data, .data, .pinned], laidTests := true, laidLooks := .later }
def DefChecksUptoCardSaid : Prop := Claim7.holds Tryd.pinned (.plain (OpenSpec.upto defChecksSpec)) defChecksUptoCard

/-- THE SECOND FORM's CARD OF 'usufructlaw13.DefKeys'. -/
def defKeysUptoCard : Claim7 := { stood := { row := defKeysUptoRow, standIns := [], harness := (true, "342cf7d5447fa85154afb58fd3409d7093d70d887369711c471a742781c9b135"), looks := false }, kinds := [], alts := [], laidByText := true, laidKinds := [.data, .data, .data, .data, .pinned], laidTests := true, laidLooks := .later }
def DefKeysUptoCardSaid : Prop := Claim7.holds Tryd.pinned (.plain (OpenSpec.upto defKeysSpec)) defKeysUptoCard

/-- THE SECOND FORM's CARD OF 'usufructlaw13.DefParties'. -/
def defPartiesUptoCard : Claim7 := { stood := { row := defPartiesUptoRow, standIns := [], harness := (true, "342cf7d5447fa85154afb58fd3409d7093d70d887369711c471a742781c9b135"), looks := false }, kinds := [], alts := [], laidByText := true, laidKinds := [.data, .data, .data, .data, .pinned], laidTests := true, laidLooks := .later }
def DefPartiesUptoCardSaid : Prop := Claim7.holds Tryd.pinned (.plain (OpenSpec.upto defPartiesSpec)) defPartiesUptoCard

/-- THE SECOND FORM's CARD OF 'usufructlaw13.DefOwns'. -/
def defOwnsUptoCard : Claim7 := { stood := { row := defOwnsUptoRow, standIns := [], harness := (true, "342cf7d5447fa85154afb58fd3409d7093d70d887369711c471a742781c9b135"), looks := false }, kinds := [], alts := [], laidByText := true, laidKinds := [.data, .data, .data, .data, .pinned], laidTests := true, laidLooks := .later }
def DefOwnsUptoCardSaid : Prop := Claim7.holds Tryd.pinned (.plain (OpenSpec.upto defOwnsSpec)) defOwnsUptoCard

/-- THE SECOND FORM's CARD OF 'usufructlaw14.SagaStays'. -/
def sagaStaysUptoCard : Claim7 := { stood := { row := sagaStaysUptoRow, standIns := [], harness := (true, "342cf7d5447fa85154afb58fd3409d7093d70d887369711c471a742781c9b135"), looks := false }, kinds := [], alts := [], laidByText := true, laidKinds := [.data, .data, .data], laidTests := true, laidLooks := .later }
def SagaStaysUptoCardSaid : Prop := Claim7.holds Tryd.pinned (.plain (OpenSpec.upto sagaStaysSpec)) sagaStaysUptoCard

/-- THE SECOND FORM's CARD OF 'usufructlaw14.SagaDue'. -/
def sagaDueUptoCard : Claim7 := { stood := { row := sagaDueUptoRow, standIns := [], harness := (true, "342cf7d5447fa85154afb58fd3409d7093d70d887369711c471a742781c9b135"), looks := false }, kinds := [], alts := [], laidByText := true, laidKinds := [.data, .data, .data], laidTests := true, laidLooks := .later }
def SagaDueUptoCardSaid : Prop := Claim7.holds Tryd.pinned (.plain (OpenSpec.upto sagaDueSpec)) sagaDueUptoCard

/-- THE SECOND FORM's CARD OF 'usufructlaw14.SagaCarries'. -/
def sagaCarriesUptoCard : Claim7 := { stood := { row := sagaCarriesUptoRow, standIns := [], harness := (true, "342cf7d5447fa85154afb58fd3409d7093d70d887369711c471a742781c9b135"), looks := false }, kinds := [], alts := [], laidByText := true, laidKinds := [.data, .data, .data], laidTests := true, laidLooks := .later }
def SagaCarriesUptoCardSaid : Prop := Claim7.holds Tryd.pinned (.plain (OpenSpec.upto sagaCarriesSpec)) sagaCarriesUptoCard
end Rows
end Go.Proofs.YtkmldgcnbjjbcaaDoor
