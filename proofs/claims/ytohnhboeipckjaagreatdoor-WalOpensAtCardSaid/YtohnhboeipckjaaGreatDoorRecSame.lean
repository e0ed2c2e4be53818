/-
  What the statements' own comparison of payloads and texts (same) answers where they are the same: true.
  Conditions: at most 1000 of them, each of at most 2^40 bytes; they lie in memory.
-/
import Derived.Test.YtohnhboeipckjaaGreatDoorRecRefAll
import Derived.Test.YtohnhboeipckjaaGreatDoorRecAll
import Derived.Deep.QuietTactic
import Derived.BigQuiet
namespace Go.Proofs.YtohnhboeipckjaaGreatDoor
open Go.RowKit

/-- slices of bytes in a row that read as lists -/
def SlsAt (w : World) (A : Option Addr) (ls : List (List UInt8)) : Prop := ∀ i (h : i < ls.length), ∃ g o A' c, A = some ⟨g, o, none⟩ ∧ w.cell? ⟨g, o + i, none⟩ = some (.slice A' (ls[i]).length c) ∧ Byt w w.heap.size A' ls[i]
/-- texts in a row -/
def StrAt (w : World) (A : Option Addr) (ls : List (List UInt8)) : Prop := ∀ i (h : i < ls.length), ∃ g o, A = some ⟨g, o, none⟩ ∧ w.cell? ⟨g, o + i, none⟩ = some (.string ⟨ls[i].toArray⟩)

theorem slsAt_of {w : World} {B B' : Nat} {A : Option Addr} {n c : Nat} {xs : List El} (h : w.ownsRow B 31 1 (.slice A n c) n (xs.map El.val)) (hp : ∀ x ∈ xs, Pay w B' x) (hn : n = xs.length) : SlsAt w A (xs.map El.l) := by
  subst hn
  intro i hi
  have hi' : i < xs.length := by simpa using hi
  rcases h.2 with ⟨_, h0⟩ | ⟨g, cap, cur, hv, _⟩
  · omega
  · cases hv
    refine ⟨g, 0, xs[i].A, xs[i].c, rfl, ?_, ?_⟩
    · rw [Nat.zero_add, h.cellAt i (by omega), List.getElem?_map, List.getElem?_eq_getElem hi']
      simp [El.val]
    · have h1 := hp xs[i] (List.getElem_mem hi')
      rw [List.getElem_map]
      exact Byt.own h1
theorem strAt_of {w : World} {B : Nat} {A : Option Addr} {n c : Nat} {ps : List ByteArray} (h : w.ownsRow B 9 1 (.slice A n c) n (strV ps)) (hn : n = ps.length) : StrAt w A (strL ps) := by
  subst hn
  intro i hi
  have hi' : i < ps.length := by simpa using hi
  rcases h.2 with ⟨_, h0⟩ | ⟨g, cap, cur, hv, _⟩
  · omega
  · cases hv
    refine ⟨g, 0, rfl, ?_⟩
    rw [Nat.zero_add, h.cellAt i (by omega), List.getElem?_map, List.getElem?_eq_getElem hi']
    simp [strL]

end Go.Proofs.YtohnhboeipckjaaGreatDoor
