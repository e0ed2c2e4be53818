/-
  What the statements' own comparison of payloads and texts (same) answers where they are the same: true.
  Conditions: at most 1000 of them, each of at most 2^40 bytes; they lie in memory.
-/
import Derived.Test.YtalbplhjlodfjaaRecRefAll
import Derived.Test.YtalbplhjlodfjaaRecAll
import Derived.Deep.QuietTactic
import Derived.BigQuiet
namespace Go.Proofs.Ytalbplhjlodfjaa
open Go.RowKit

/-- slices of bytes in a row that read as lists -/
def SlsAt (w : World) (A : Option Addr) (ls : List (List UInt8)) : Prop := ∀ i (h : i < ls.length), ∃ g o A' c, A = some ⟨g, o, none⟩ ∧ w.cell? ⟨g, o + i, none⟩ = some (.slice A' (ls[i]).length c) ∧ Byt w w.heap.size A' ls[i]
/-- texts in a row -/
def StrAt (w : World) (A : Option Addr) (ls : List (List UInt8)) : Prop := ∀ i (h : i < ls.length), ∃ g o, A = some ⟨g, o, none⟩ ∧ w.cell? ⟨g, o + i, none⟩ = some (.string ⟨ls[i].toArray⟩)

theorem slsAt_of {w : World} {B B' : Nat} {A : Option Addr} {n c : Nat} {xs : List El} (h : w.ownsRow B 22 1 (.slice A n c) n (xs.map El.val)) (hp : ∀ x ∈ xs, Pay w B' x) (hn : n = xs.length) : SlsAt w A (xs.map El.l) := by
  subst hn
  intro i hi
  have hi' : i < xs.length := by simpa using hi
  rcases h.2 with ⟨_, h0⟩ | ⟨g, cap, cur, hv, _⟩
  · omega
  · cases hv
    refine ⟨g, 0, xs[i].A, xs[i].c, rfl, ?_, ?_⟩
    · rw [Nat.zero_add, h.cellAt i (by omega), List.getElem?_map, List.getElem?_eq_getElem hi']
      simp [El.val]
    · have h1 := hp xs[i] (List.getElem_mem hi')
      rw [List.getElem_map]
      exact Byt.own h1
theorem strAt_of {w : World} {B : Nat} {A : Option Addr} {n c : Nat} {ps : List ByteArray} (h : w.ownsRow B 9 1 (.slice A n c) n (strV ps)) (hn : n = ps.length) : StrAt w A (strL ps) := by
  subst hn
  intro i hi
  have hi' : i < ps.length := by simpa using hi
  rcases h.2 with ⟨_, h0⟩ | ⟨g, cap, cur, hv, _⟩
  · omega
  · cases hv
    refine ⟨g, 0, rfl, ?_⟩
    rw [Nat.zero_add, h.cellAt i (by omega), List.getElem?_map, List.getElem?_eq_getElem hi']
    simp [strL]

set_option maxHeartbeats 2000000 in
set_option maxRecDepth 100000 in
theorem same_any (A B : Option Addr) (ls : List (List UInt8)) (c d : Nat) (w : World) (hA : SlsAt w A ls) (hB : StrAt w B ls) (hn : ls.length ≤ 1000) :
    Calls Try.prog 12 #[.slice A ls.length c, .slice B ls.length d] w fun e w' => e = .returned (.bool true) ∧ ∃ k, w' = w.drewN k := by
  go_enter Try.func12, Try.ntmps12
  go_wp2
  go_loopw [5] (fun p wr => ∃ k j : Nat, p = .int .i64 k ∧ k ≤ ls.length ∧ wr = w.drewN j) (fun p _ => ls.length - (intOf p).toNat)
  case atStart => exact ⟨0, 0, rfl, by omega, rfl⟩
  case round =>
    obtain ⟨k, j, rfl, hk, rfl⟩ := hrel
    by_cases h8 : k < ls.length
    · obtain ⟨g1, o1, A1, c1, rfl, hc1, hb1⟩ := hA k h8
      obtain ⟨g2, o2, rfl, hc2⟩ := hB k h8
      have ht := fun n => Byt.text (P := Try.prog) (w := (w.drewN j).drewN n) (B := w.heap.size) hb1 22 5 9 Try.underlying22 Try.underlying5 Try.underlying9 c1
      have hc1' : (w.drewN j).cell? ⟨g1, o1 + k, none⟩ = some (.slice A1 (ls[k]).length c1) := hc1
      have hc2' : (w.drewN j).cell? ⟨g2, o2 + k, none⟩ = some (.string ⟨(ls[k]).toArray⟩) := hc2
      generalize ls[k] = l at *
      obtain ⟨wr, hwr⟩ : ∃ x, x = w.drewN j := ⟨_, rfl⟩
      rw [← hwr] at ht hc1' hc2' ⊢
      have HW := Lib.hid hwr
      clear hwr hb1 hc1 hc2
      have hne : (l != l) = false := by simp
      go_wp2_with fail
      go_quiet (fail)
      go_wp2
      go_roundw
      case rel => exact ⟨k + 1, j + nq, by go_num, by omega, by rw [← World.drewN_drewN, HW.out]⟩
      case measure => simp [intOf]; omega
    · obtain rfl : k = ls.length := by omega
      go_wp2
      go_ret
      exact ⟨rfl, _, rfl⟩
end Go.Proofs.Ytalbplhjlodfjaa
