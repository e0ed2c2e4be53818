/-
  No cell of these rows narrows 'for every input' (looked for: loops, veiled, ifaces, maps, wideKeys, modest, calm, conditions, laid).
  DERIVED. THE GIVEN ROWS OF THIS SEAT. 3 by the template 'for every input the law returns true; each argument reads behind the call as it read before'; 0 by the template 'total and deterministic' (their statements: YtndpdciehnndoaaTotals.lean).
  GIVEN WITH THE SEED: the statements are not yours to turn. If you find one false, say at which input.
  Laid BY PROGRAM, IN A SANDBOX (cutbox-rows.mjs): the forced cells as the released guide's own fill.sh prints them over the translation d075ed06af229d3d… (all of the seat's roots in one cut). By AI agents, Wed Nov 11 2026. No macro, syntax, notation, axiom, sorry.
-/
import Derived.Test.YtndpdciehnndoaaChecked
import GoSem.Claim
import GoSem.ClaimJoined
import GoSem.ClaimMapViews
import Derived.JoinedTies
import Derived.KernelRfl
namespace Go.Proofs.Ytndpdciehnndoaa
/- THE CELL 'sum', in the pinned program and in every row, IS THE sha256 OF THE DUMP (.gsa) THAT YtndpdciehnndoaaProg.lean LOADS. Nothing in Lean hashes anything: it is a label: what it is worth is what the hold of that sum in a sandbox is worth. -/
noncomputable def Try.pinned : Pinned := { name := "ytndpdciehnndoaa", sum := "d075ed06af229d3db679129369aa84b6f75cabb5352440dd60b95f6c51ee24d3", checked := Try.checked }
namespace Rows
def none {H : Type} : Left H := { results := [], args := [] }

/-- 'usufructlaw10.BreakerPlays': WHATEVER THE INPUT: true; the input reads as it did. -/
def breakerPlaysSpec : ChangeSpec := { name := "breakerPlays", fn := fun _ => fun
  | [d1, d2, d3, d4] => { results := [.lit (.bool true)], args := [d1, d2, d3, d4] }
  | _ => none }
def breakerPlaysRow : OpenClaim := { program := "ytndpdciehnndoaa", sum := "d075ed06af229d3db679129369aa84b6f75cabb5352440dd60b95f6c51ee24d3", func := "usufruct/usufructlaw10.BreakerPlays", spec := "breakerPlays", apart := false }
def BreakerPlaysSaid : Prop := breakerPlaysRow.holds Try.pinned (OpenSpec.ofChange breakerPlaysSpec)

/-- ITS FALSE NEIGHBOUR: 'it returns false'. Refute it at one input. -/
def breakerPlaysWrong : ChangeSpec := { name := "breakerPlays", fn := fun _ => fun
  | [d1, d2, d3, d4] => { results := [.lit (.bool false)], args := [d1, d2, d3, d4] }
  | _ => none }
def BreakerPlaysWrongFalsely : Prop := breakerPlaysRow.holds Try.pinned (OpenSpec.ofChange breakerPlaysWrong)

/-- 'usufructlaw10.BreakerHolds': WHATEVER THE INPUT: true; the input reads as it did. -/
def breakerHoldsSpec : ChangeSpec := { name := "breakerHolds", fn := fun _ => fun
  | [d1, d2, d3, d4] => { results := [.lit (.bool true)], args := [d1, d2, d3, d4] }
  | _ => none }
def breakerHoldsRow : OpenClaim := { program := "ytndpdciehnndoaa", sum := "d075ed06af229d3db679129369aa84b6f75cabb5352440dd60b95f6c51ee24d3", func := "usufruct/usufructlaw10.BreakerHolds", spec := "breakerHolds", apart := false }
def BreakerHoldsSaid : Prop := breakerHoldsRow.holds Try.pinned (OpenSpec.ofChange breakerHoldsSpec)

/-- ITS FALSE NEIGHBOUR: 'it returns false'. Refute it at one input. -/
def breakerHoldsWrong : ChangeSpec := { name := "breakerHolds", fn := fun _ => fun
  | [d1, d2, d3, d4] => { results := [.lit (.bool false)], args := [d1, d2, d3, d4] }
  | _ => none }
def BreakerHoldsWrongFalsely : Prop := breakerHoldsRow.holds Try.pinned (OpenSpec.ofChange breakerHoldsWrong)

/-- 'usufructlaw10.BreakerTrips': WHATEVER THE INPUT: true; the input reads as it did. -/
def breakerTripsSpec : ChangeSpec := { name := "breakerTrips", fn := fun _ => fun
  | [d1, d2, d3] => { results := [.lit (.bool true)], args := [d1, d2, d3] }
  | _ => none }
def breakerTripsRow : OpenClaim := { program := "ytndpdciehnndoaa", sum := "d075ed06af229d3db679129369aa84b6f75cabb5352440dd60b95f6c51ee24d3", func := "usufruct/usufructlaw10.BreakerTrips", spec := "breakerTrips", apart := false }
def BreakerTripsSaid : Prop := breakerTripsRow.holds Try.pinned (OpenSpec.ofChange breakerTripsSpec)

/-- ITS FALSE NEIGHBOUR: 'it returns false'. Refute it at one input. -/
def breakerTripsWrong : ChangeSpec := { name := "breakerTrips", fn := fun _ => fun
  | [d1, d2, d3] => { results := [.lit (.bool false)], args := [d1, d2, d3] }
  | _ => none }
def BreakerTripsWrongFalsely : Prop := breakerTripsRow.holds Try.pinned (OpenSpec.ofChange breakerTripsWrong)

/- THE SECOND FORM. 'bulk': how many values and letters a reading holds, each counted each time it is reached (what is shared counts as often as it is met; a slice's spare places count too). A statement '..UptoSaid' is the law's where the arguments, and the package variables that the reading takes, are together of bulk at most 1048576: NARROWER than '..Said'. Prove '..Said' where nothing that the law and all that it calls make is longer than what came in: it says more and counts as full. Else prove '..UptoSaid'. A law counts once. -/
mutual
def uptoBulk {H : Type} : DataW H → Nat
  | .lit (.string bytes) => bytes.length + 1
  | .lit _ => 1
  | .nil => 1
  | .ptr d => uptoBulk d + 1
  | .slice elems spare => uptoBulkAll elems + uptoBulkAll spare + 1
  | .agg parts => uptoBulkAll parts + 1
  | .iface _ d => uptoBulk d + 1
  | .map entries => uptoBulkEntries entries + 1
  | .held _ => 1
def uptoBulkAll {H : Type} : List (DataW H) → Nat
  | [] => 0
  | d :: r => uptoBulk d + uptoBulkAll r
def uptoBulkEntries {H : Type} : List (Lit × DataW H) → Nat
  | [] => 0
  | x :: r => uptoBulkEntry x + uptoBulkEntries r
def uptoBulkEntry {H : Type} : Lit × DataW H → Nat
  | (.string bytes, d) => bytes.length + uptoBulk d + 1
  | (_, d) => uptoBulk d + 1
 end
def uptoSmall : (H : Type) → List (DataW H) → Bool := fun _ ds => decide (uptoBulkAll ds ≤ 1048576)
def OpenSpec.upto (s : _root_.Go.ChangeSpec) : _root_.Go.OpenSpec := { _root_.Go.OpenSpec.ofChange s with cond := some uptoSmall }

/-- 'usufructlaw10.BreakerPlays', WHERE WHAT IT READS IS OF BULK AT MOST 1048576: true; the input reads as it did. -/
def breakerPlaysUptoRow : OpenClaim := { program := "ytndpdciehnndoaa", sum := "d075ed06af229d3db679129369aa84b6f75cabb5352440dd60b95f6c51ee24d3", func := "usufruct/usufructlaw10.BreakerPlays", spec := "breakerPlays", apart := false, narrowed := true }
def BreakerPlaysUptoSaid : Prop := breakerPlaysUptoRow.holds Try.pinned (OpenSpec.upto breakerPlaysSpec)

/-- 'usufructlaw10.BreakerHolds', WHERE WHAT IT READS IS OF BULK AT MOST 1048576: true; the input reads as it did. -/
def breakerHoldsUptoRow : OpenClaim := { program := "ytndpdciehnndoaa", sum := "d075ed06af229d3db679129369aa84b6f75cabb5352440dd60b95f6c51ee24d3", func := "usufruct/usufructlaw10.BreakerHolds", spec := "breakerHolds", apart := false, narrowed := true }
def BreakerHoldsUptoSaid : Prop := breakerHoldsUptoRow.holds Try.pinned (OpenSpec.upto breakerHoldsSpec)

/-- 'usufructlaw10.BreakerTrips', WHERE WHAT IT READS IS OF BULK AT MOST 1048576: true; the input reads as it did. -/
def breakerTripsUptoRow : OpenClaim := { program := "ytndpdciehnndoaa", sum := "d075ed06af229d3db679129369aa84b6f75cabb5352440dd60b95f6c51ee24d3", func := "usufruct/usufructlaw10.BreakerTrips", spec := "breakerTrips", apart := false, narrowed := true }
def BreakerTripsUptoSaid : Prop := breakerTripsUptoRow.holds Try.pinned (OpenSpec.upto breakerTripsSpec)

end Rows
end Go.Proofs.Ytndpdciehnndoaa
