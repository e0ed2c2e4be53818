/-
  DERIVED. GIVEN WITH THE SEED: THE CARDS: each row of YtebhakpcjhofpaaDoorRows.lean that lists a variable, with what it lists TIED to the program's text (the seventh form; the later family's looks); each row that meets fmt, with fmt's text TOLD by the authors' own Lean function (tested against real Go, not proved from fmt's source: count such statements apart). THE CARD IS WHAT COUNTS. Prove the row's statement (the work); the ties are given (YtebhakpcjhofpaaDoorTie.lean); close each card by the builder's one call (the guide's Derived/Test/ToyasCard.lean, 'card_holds'). Laid BY PROGRAM, IN A SANDBOX (cutbox-door.mjs). By AI agents, Wed Nov 11 2026. No macro, syntax, notation, axiom, sorry.
-/
import Derived.Test.YtebhakpcjhofpaaDoorRows
import GoSem.ClaimSeven
namespace Go.Proofs.YtebhakpcjhofpaaDoor
namespace Rows

/-- THE TIED CARD OF 'usufructlaw13.DefChecks'. -/
def defChecksCard : Claim7 := { stood := { row := defChecksRow, standIns := [], harness := (true, "a83e21514cff77bccafa2ffddcec3c191be27b254a44f6e769b52b4e31435836"), looks := false }, kinds := [], alts := [], laidByText := true, laidKinds := [.data, .data, .data, .data, .pinned], laidTests := true, laidLooks := .later }
def DefChecksCardSaid : Prop := Claim7.holds Tryd.pinned (.plain (OpenSpec.ofChange defChecksSpec)) defChecksCard

/-- THE TIED CARD OF 'usufructlaw13.DefKeys'. -/
def defKeysCard : Claim7 := { stood := { row := defKeysRow, standIns := [], harness := (true, "a83e21514cff77bccafa2ffddcec3c191be27b254a44f6e769b52b4e31435836"), looks := false }, kinds := [], alts := [], laidByText := true, laidKinds := [.data, .data, .data, .data, .pinned], laidTests := true, laidLooks := .later }
def DefKeysCardSaid : Prop := Claim7.holds Tryd.pinned (.plain (OpenSpec.ofChange defKeysSpec)) defKeysCard

/-- THE TIED CARD OF 'usufructlaw13.DefParties'. -/
def defPartiesCard : Claim7 := { stood := { row := defPartiesRow, standIns := [], harness := (true, "a83e21514cff77bccafa2ffddcec3c191be27b254a44f6e769b52b4e31435836"), looks := false }, kinds := [], alts := [], laidByText := true, laidKinds := [.data, .data, .data, .data, .pinned], laidTests := true, laidLooks := .later }
def DefPartiesCardSaid : Prop := Claim7.holds Tryd.pinned (.plain (OpenSpec.ofChange defPartiesSpec)) defPartiesCard

/-- THE TIED CARD OF 'usufructlaw13.DefOwns'. -/
def defOwnsCard : Claim7 := { stood := { row := defOwnsRow, standIns := [], harness := (true, "a83e21514cff77bccafa2ffddcec3c191be27b254a44f6e769b52b4e31435836"), looks := false }, kinds := [], alts := [], laidByText := true, laidKinds := [.data, .data, .data, .data, .pinned], laidTests := true, laidLooks := .later }
def DefOwnsCardSaid : Prop := Claim7.holds Tryd.pinned (.plain (OpenSpec.ofChange defOwnsSpec)) defOwnsCard

/-- THE SECOND FORM's CARD OF 'usufructlaw13.DefChecks'. -/
def defChecksUptoCard : Claim7 := { stood := { row := defChecksUptoRow, standIns := [], harness := (true, "a83e21514cff77bccafa2ffddcec3c191be27b254a44f6e769b52b4e31435836"), looks := false }, kinds := [], alts := [], laidByText := true, laidKinds := [.data, .data, .data, .data, .pinned], laidTests := true, laidLooks := .later }
def DefChecksUptoCardSaid : Prop := Claim7.holds Tryd.pinned (.plain (OpenSpec.upto defChecksSpec)) defChecksUptoCard

/-- THE SECOND FORM's CARD OF 'usufructlaw13.DefKeys'. -/
def defKeysUptoCard : Claim7 := { stood := { row := defKeysUptoRow, standIns := [], harness := (true, "a83e21514cff77bccafa2ffddcec3c191be27b254a44f6e769b52b4e31435836"), looks := false }, kinds := [], alts := [], laidByText := true, laidKinds := [.data, .data, .data, .data, .pinned], laidTests := true, laidLooks := .later }
def DefKeysUptoCardSaid : Prop := Claim7.holds Tryd.pinned (.plain (OpenSpec.upto defKeysSpec)) defKeysUptoCard

/-- THE SECOND FORM's CARD OF 'usufructlaw13.DefParties'. -/
def defPartiesUptoCard : Claim7 := { stood := { row := defPartiesUptoRow, standIns := [], harness := (true, "a83e21514cff77bccafa2ffddcec3c191be27b254a44f6e769b52b4e31435836"), looks := false }, kinds := [], alts := [], laidByText := true, laidKinds := [.data, .data, .data, .data, .pinned], laidTests := true, laidLooks := .later }
def DefPartiesUptoCardSaid : Prop := Claim7.holds Tryd.pinned (.plain (OpenSpec.upto defPartiesSpec)) defPartiesUptoCard

/-- THE SECOND FORM's CARD OF 'usufructlaw13.DefOwns'. -/
def defOwnsUptoCard : Claim7 := { stood := { row := defOwnsUptoRow, standIns := [], harness := (true, "a83e21514cff77bccafa2ffddcec3c191be27b254a44f6e769b52b4e31435836"), looks := false }, kinds := [], alts := [], laidByText := true, laidKinds := [.data, .data, .data, .data, .pinned], laidTests := true, laidLooks := .later }
def DefOwnsUptoCardSaid : Prop := Claim7.holds Tryd.pinned (.plain (OpenSpec.upto defOwnsSpec)) defOwnsUptoCard
end Rows
end Go.Proofs.YtebhakpcjhofpaaDoor
