/-
  An argument of type [][]byte, opened: the list of its slices, each with its bytes.
  Conditions: none.
-/
import Derived.Test.YtohnhboeipckjaaGreatDoorRecArg
import Derived.Test.YtohnhboeipckjaaGreatDoorRecIter
import Derived.Deep.Slices
import Derived.ChangeSame
namespace Go.Proofs.YtohnhboeipckjaaGreatDoor
open Go.ChangeShapes Go.WideShapes Go.ChangeAt Go.RowKit

theorem add_at (b o n : Nat) : (⟨b, o, none⟩ : Addr).add n = ⟨b, o + n, none⟩ := by unfold Addr.add; split <;> simp_all
theorem open_bytes {H : Type} {enc : TypeId × Value → H} {W : World} {fuel : Nat} {c : Value} {x : DataW H × List MemPlace} (hf : DataW.trod enc Tryz.prog W 0 (fun _ => true) true fuel 31 [c] = some x) :
    ∃ (A : Option Addr) (l : List UInt8) (cap : Nat), c = .slice A l.length cap ∧ l.length ≤ cap ∧ l.length ≤ 9223372036854775807 ∧ Byt W W.heap.size A l := by
  have hc : ∃ A len cap, c = .slice A len cap := by
    rcases open_ints Tryz.underlying31 Tryz.underlying5 cells5 hf with ⟨hcs, _⟩ | ⟨a, len', cap', zs, hcs, _⟩
    · simp only [List.cons.injEq, and_true] at hcs; exact ⟨_, _, _, hcs⟩
    · simp only [List.cons.injEq, and_true] at hcs; exact ⟨_, _, _, hcs⟩
  obtain ⟨A, len, cap, rfl⟩ := hc
  obtain ⟨d, p⟩ := x
  obtain ⟨l, rfl, h1, h2, h3⟩ := arg_bytes (a0 := A) (len := len) (cap := cap) (d0 := d) (p := p) ⟨fuel, hf⟩
  exact ⟨A, l, cap, rfl, h1, h2, h3⟩
/-- the slice at a place of a slice -/
def RowAt (w : World) (B : Nat) (A : Option Addr) (i : Nat) (x : El) : Prop :=
  (x.l.length ≤ 9223372036854775807 ∧ Byt w B x.A x.l) ∧ ∃ b o, A = some ⟨b, o, none⟩ ∧ b < B ∧ w.cell? ⟨b, o + i, none⟩ = some x.val
theorem RowAt.below {w w' : World} {B : Nat} {A : Option Addr} {i : Nat} {x : El} (h : RowAt w B A i x) (hb : Below B w w') : RowAt w' B A i x := by
  obtain ⟨⟨h1, h2⟩, b, o, e, hlt, hc⟩ := h
  exact ⟨⟨h1, h2.below hb⟩, b, o, e, hlt, (hb.cell (p := ⟨b, o + i, none⟩) hlt).trans hc⟩
theorem cells22 : Tryz.prog.cellsOf 31 = 1 := by kernel_rfl
/-- a list out of what each place has -/
theorem pick_list {α : Type} {n : Nat} {Q : Nat → α → Prop} (h : ∀ i, i < n → ∃ a, Q i a) : ∃ xs : List α, xs.length = n ∧ ∀ i (hi : i < xs.length), Q i xs[i] := by
  induction n with
  | zero => exact ⟨[], rfl, fun i hi => by simp at hi⟩
  | succ n ih =>
    obtain ⟨xs, hl, hx⟩ := ih fun i hi => h i (by omega)
    obtain ⟨a, ha⟩ := h n (by omega)
    refine ⟨xs ++ [a], by simp [hl], fun i hi => ?_⟩
    by_cases hin : i < xs.length
    · rw [List.getElem_append_left hin]; exact hx i hin
    · have hi' : i < xs.length + 1 := by simpa using hi
      obtain rfl : i = n := by omega
      rw [List.getElem_append_right (by omega)]
      simpa using ha
set_option maxRecDepth 100000 in
theorem arg_rows {H : Type} {enc : TypeId × Value → H} {W : World} {a0 : Option Addr} {len cap : Nat} {d0 : DataW H} {p : List MemPlace}
    (h0 : DataW.Trod enc Tryz.prog W 0 (fun _ => true) true 23 (.slice a0 len cap) d0 p) :
    ∃ xs : List El, xs.length = len ∧ len ≤ 9223372036854775807 ∧ ∀ i (hi : i < xs.length), RowAt W W.heap.size a0 i xs[i] := by
  obtain ⟨fuel, hf⟩ := h0
  rcases Deep.open_slice Tryz.underlying23 hf with ⟨hcs, _⟩ | ⟨a, len', cap', m, n, D, Pl, hcs, _, hl, hm, hmm, _, hi⟩
  · simp [Value.cells] at hcs
    obtain ⟨rfl, rfl, rfl⟩ := hcs
    exact ⟨[], rfl, by omega, fun i hi => absurd hi (by simp)⟩
  · simp [Value.cells] at hcs
    obtain ⟨rfl, rfl, rfl⟩ := hcs
    simp only [if_true] at hmm
    subst hmm
    suffices H : ∀ i, i < len → ∃ x, RowAt W W.heap.size (some a) i x by
      obtain ⟨xs, h1, h2⟩ := pick_list H
      exact ⟨xs, h1, by unfold maxLen at hm; omega, h2⟩
    intro i hi'
    have hsp : a.spot = none ∧ a.block < W.heap.size := by
      obtain ⟨cs0, hc0, _⟩ := hi 0 (by omega)
      rw [cells22] at hc0
      obtain ⟨_, hlen0, hat0⟩ := World.cells?_some hc0
      have g0 := hat0 0 (by omega)
      rw [List.getElem?_eq_getElem (by omega)] at g0
      exact ⟨World.cell?_spot (by simpa [Addr.add] using g0), by simpa [Addr.add] using World.block_lt_of_cell? _ _ g0⟩
    obtain ⟨b, o, sp⟩ := a
    simp only at hsp
    obtain ⟨rfl, hblt⟩ := hsp
    obtain ⟨cs', hc, ht⟩ := hi i (by omega)
    rw [cells22] at hc
    obtain ⟨_, hlen, hat⟩ := World.cells?_some hc
    match cs', hlen with
    | [c0], _ =>
      obtain ⟨A3, l3, cap3, rfl, _, m3, b3⟩ := open_bytes ht
      refine ⟨⟨0, A3, cap3, l3⟩, ⟨m3, b3⟩, b, o, rfl, hblt, ?_⟩
      have hx := hat 0 (by omega)
      rw [add_at, add_at] at hx
      simpa [El.val] using hx
end Go.Proofs.YtohnhboeipckjaaGreatDoor
