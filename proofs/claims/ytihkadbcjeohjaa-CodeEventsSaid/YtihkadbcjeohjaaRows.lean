/-
  No cell of these rows narrows 'for every input' (looked for: loops, veiled, ifaces, maps, wideKeys, modest, calm, conditions, laid).
  DERIVED. THE GIVEN ROWS OF THIS SEAT. 4 by the template 'for every input the law returns true; each argument reads behind the call as it read before'; 0 by the template 'total and deterministic' (their statements: YtihkadbcjeohjaaTotals.lean).
  GIVEN WITH THE SEED: the statements are not yours to turn. If you find one false, say at which input.
  Laid BY PROGRAM, IN A SANDBOX (cutbox-rows.mjs): the forced cells as the released guide's own fill.sh prints them over the translation 4916af7b280f7140… (all of the seat's roots in one cut). By AI agents, Wed Nov 11 2026. No macro, syntax, notation, axiom, sorry.
-/
import Derived.Test.YtihkadbcjeohjaaChecked
import GoSem.Claim
import GoSem.ClaimJoined
import GoSem.ClaimMapViews
import Derived.JoinedTies
import Derived.KernelRfl
namespace Go.Proofs.Ytihkadbcjeohjaa
/- THE CELL 'sum', in the pinned program and in every row, IS THE sha256 OF THE DUMP (.gsa) THAT YtihkadbcjeohjaaProg.lean LOADS. Nothing in Lean hashes anything: it is a label: what it is worth is what the hold of that sum in a sandbox is worth. -/
noncomputable def Try.pinned : Pinned := { name := "ytihkadbcjeohjaa", sum := "4916af7b280f7140b6e426a20d1dfd938a1a541115d0d674a11a4a5cc63331ce", checked := Try.checked }
namespace Rows
def none {H : Type} : Left H := { results := [], args := [] }

/-- 'usufructlaw15.CodeDefs': WHATEVER THE INPUT: true; the input reads as it did. -/
def codeDefsSpec : ChangeSpec := { name := "codeDefs", fn := fun _ => fun
  | [d1, d2] => { results := [.lit (.bool true)], args := [d1, d2] }
  | _ => none }
def codeDefsRow : OpenClaim := { program := "ytihkadbcjeohjaa", sum := "4916af7b280f7140b6e426a20d1dfd938a1a541115d0d674a11a4a5cc63331ce", func := "usufruct/usufructlaw15.CodeDefs", spec := "codeDefs", unfollowed := true, recurses := true, apart := false }
def CodeDefsSaid : Prop := codeDefsRow.holds Try.pinned (OpenSpec.ofChange codeDefsSpec)

/-- ITS FALSE NEIGHBOUR: 'it returns false'. Refute it at one input. -/
def codeDefsWrong : ChangeSpec := { name := "codeDefs", fn := fun _ => fun
  | [d1, d2] => { results := [.lit (.bool false)], args := [d1, d2] }
  | _ => none }
def CodeDefsWrongFalsely : Prop := codeDefsRow.holds Try.pinned (OpenSpec.ofChange codeDefsWrong)

/-- 'usufructlaw15.CodeSagas': WHATEVER THE INPUT: true; the input reads as it did. -/
def codeSagasSpec : ChangeSpec := { name := "codeSagas", fn := fun _ => fun
  | [d1, d2] => { results := [.lit (.bool true)], args := [d1, d2] }
  | _ => none }
def codeSagasRow : OpenClaim := { program := "ytihkadbcjeohjaa", sum := "4916af7b280f7140b6e426a20d1dfd938a1a541115d0d674a11a4a5cc63331ce", func := "usufruct/usufructlaw15.CodeSagas", spec := "codeSagas", apart := false }
def CodeSagasSaid : Prop := codeSagasRow.holds Try.pinned (OpenSpec.ofChange codeSagasSpec)

/-- ITS FALSE NEIGHBOUR: 'it returns false'. Refute it at one input. -/
def codeSagasWrong : ChangeSpec := { name := "codeSagas", fn := fun _ => fun
  | [d1, d2] => { results := [.lit (.bool false)], args := [d1, d2] }
  | _ => none }
def CodeSagasWrongFalsely : Prop := codeSagasRow.holds Try.pinned (OpenSpec.ofChange codeSagasWrong)

/-- 'usufructlaw15.CodeEvents': WHATEVER THE INPUT: true; the input reads as it did. -/
def codeEventsSpec : ChangeSpec := { name := "codeEvents", fn := fun _ => fun
  | [d1, d2] => { results := [.lit (.bool true)], args := [d1, d2] }
  | _ => none }
def codeEventsRow : OpenClaim := { program := "ytihkadbcjeohjaa", sum := "4916af7b280f7140b6e426a20d1dfd938a1a541115d0d674a11a4a5cc63331ce", func := "usufruct/usufructlaw15.CodeEvents", spec := "codeEvents", unfollowed := true, recurses := true, apart := false }
def CodeEventsSaid : Prop := codeEventsRow.holds Try.pinned (OpenSpec.ofChange codeEventsSpec)

/-- ITS FALSE NEIGHBOUR: 'it returns false'. Refute it at one input. -/
def codeEventsWrong : ChangeSpec := { name := "codeEvents", fn := fun _ => fun
  | [d1, d2] => { results := [.lit (.bool false)], args := [d1, d2] }
  | _ => none }
def CodeEventsWrongFalsely : Prop := codeEventsRow.holds Try.pinned (OpenSpec.ofChange codeEventsWrong)

/-- 'usufructlaw15.CodeCuts': WHATEVER THE INPUT: true; the input reads as it did. -/
def codeCutsSpec : ChangeSpec := { name := "codeCuts", fn := fun _ => fun
  | [d1, d2, d3] => { results := [.lit (.bool true)], args := [d1, d2, d3] }
  | _ => none }
def codeCutsRow : OpenClaim := { program := "ytihkadbcjeohjaa", sum := "4916af7b280f7140b6e426a20d1dfd938a1a541115d0d674a11a4a5cc63331ce", func := "usufruct/usufructlaw15.CodeCuts", spec := "codeCuts", unfollowed := true, recurses := true, apart := false }
def CodeCutsSaid : Prop := codeCutsRow.holds Try.pinned (OpenSpec.ofChange codeCutsSpec)

/-- ITS FALSE NEIGHBOUR: 'it returns false'. Refute it at one input. -/
def codeCutsWrong : ChangeSpec := { name := "codeCuts", fn := fun _ => fun
  | [d1, d2, d3] => { results := [.lit (.bool false)], args := [d1, d2, d3] }
  | _ => none }
def CodeCutsWrongFalsely : Prop := codeCutsRow.holds Try.pinned (OpenSpec.ofChange codeCutsWrong)

/- THE SECOND FORM. 'bulk': how many values and letters a reading holds, each counted each time it is reached (what is shared counts as often as it is met; a slice's spare places count too). A statement '..UptoSaid' is the law's where the arguments, and the package variables that the reading takes, are together of bulk at most 1048576: NARROWER than '..Said'. Prove '..Said' where nothing that the law and all that it calls make is longer than what came in: it says more and counts as full. Else prove '..UptoSaid'. A law counts once. -/
mutual
def uptoBulk {H : Type} : DataW H → Nat
  | .lit (.string bytes) => bytes.length + 1
  | .lit _ => 1
  | .nil => 1
  | .ptr d => uptoBulk d + 1
  | .slice elems spare => uptoBulkAll elems + uptoBulkAll spare + 1
  | .agg parts => uptoBulkAll parts + 1
  | .iface _ d => uptoBulk d + 1
  | .map entries => uptoBulkEntries entries + 1
  | .held _ => 1
def uptoBulkAll {H : Type} : List (DataW H) → Nat
  | [] => 0
  | d :: r => uptoBulk d + uptoBulkAll r
def uptoBulkEntries {H : Type} : List (Lit × DataW H) → Nat
  | [] => 0
  | x :: r => uptoBulkEntry x + uptoBulkEntries r
def uptoBulkEntry {H : Type} : Lit × DataW H → Nat
  | (.string bytes, d) => bytes.length + uptoBulk d + 1
  | (_, d) => uptoBulk d + 1
 end
def uptoSmall : (H : Type) → List (DataW H) → Bool := fun _ ds => decide (uptoBulkAll ds ≤ 1048576)
def OpenSpec.upto (s : _root_.Go.ChangeSpec) : _root_.Go.OpenSpec := { _root_.Go.OpenSpec.ofChange s with cond := some uptoSmall }

/-- 'usufructlaw15.CodeDefs', WHERE WHAT IT READS IS OF BULK AT MOST 1048576: true; the input reads as it did. -/
def codeDefsUptoRow : OpenClaim := { program := "ytihkadbcjeohjaa", sum := "4916af7b280f7140b6e426a20d1dfd938a1a541115d0d674a11a4a5cc63331ce", func := "usufruct/usufructlaw15.CodeDefs", spec := "codeDefs", unfollowed := true, recurses := true, apart := false, narrowed := true }
def CodeDefsUptoSaid : Prop := codeDefsUptoRow.holds Try.pinned (OpenSpec.upto codeDefsSpec)

/-- 'usufructlaw15.CodeSagas', WHERE WHAT IT READS IS OF BULK AT MOST 1048576: true; the input reads as it did. -/
def codeSagasUptoRow : OpenClaim := { program := "ytihkadbcjeohjaa", sum := "4916af7b280f7140b6e426a20d1dfd938a1a541115d0d674a11a4a5cc63331ce", func := "usufruct/usufructlaw15.CodeSagas", spec := "codeSagas", apart := false, narrowed := true }
def CodeSagasUptoSaid : Prop := codeSagasUptoRow.holds Try.pinned (OpenSpec.upto codeSagasSpec)

/-- 'usufructlaw15.CodeEvents', WHERE WHAT IT READS IS OF BULK AT MOST 1048576: true; the input reads as it did. -/
def codeEventsUptoRow : OpenClaim := { program := "ytihkadbcjeohjaa", sum := "4916af7b280f7140b6e426a20d1dfd938a1a541115d0d674a11a4a5cc63331ce", func := "usufruct/usufructlaw15.CodeEvents", spec := "codeEvents", unfollowed := true, recurses := true, apart := false, narrowed := true }
def CodeEventsUptoSaid : Prop := codeEventsUptoRow.holds Try.pinned (OpenSpec.upto codeEventsSpec)

/-- 'usufructlaw15.CodeCuts', WHERE WHAT IT READS IS OF BULK AT MOST 1048576: true; the input reads as it did. -/
def codeCutsUptoRow : OpenClaim := { program := "ytihkadbcjeohjaa", sum := "4916af7b280f7140b6e426a20d1dfd938a1a541115d0d674a11a4a5cc63331ce", func := "usufruct/usufructlaw15.CodeCuts", spec := "codeCuts", unfollowed := true, recurses := true, apart := false, narrowed := true }
def CodeCutsUptoSaid : Prop := codeCutsUptoRow.holds Try.pinned (OpenSpec.upto codeCutsSpec)

end Rows
end Go.Proofs.Ytihkadbcjeohjaa
