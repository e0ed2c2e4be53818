/-
  What the library's bytes.Clone and the program's NewReader answer.
  Conditions: the bytes lie in memory that was there; they are at most 2^40.
-/
import Derived.Test.YtihkadbcjeohjaaFldText
import Derived.Lib.SliceRun
namespace Go.Proofs.Ytihkadbcjeohjaa
open Go.RowKit

theorem own_below {w w' : World} {base : Nat} {e : TypeId} {v : Value} {n : Nat} {xs : List Value} (h : w.ownsRow base e 1 v n xs) (hb : Below w.heap.size w w') : w'.ownsRow base e 1 v n xs := by
  refine ⟨h.1, ?_⟩
  rcases h.2 with h1 | ⟨g, cap, cur, hv, hg, hh, r⟩
  · exact .inl h1
  · exact .inr ⟨g, cap, cur, hv, hg, (hb.block g (Array.getElem?_eq_some_iff.1 hh).1).trans hh, r⟩
theorem Byt.one (w : World) (t : TypeId) (x : Int) (b : UInt8) (h : x = (b.toNat : Int)) : Byt (w.alloc (.cells #[.int .u8 x] t)) (w.heap.size + 1) (some ⟨w.heap.size, 0, Option.none⟩) [b] := fun _ => by
  refine ⟨w.heap.size, 0, rfl, by omega, fun k hk => ?_⟩
  have h0 : k = 0 := by simp at hk; exact hk
  subst h0
  subst h
  rw [cell_of_row _ _ _ _ _ _ (heap_alloc_new w _)]
  simp

set_option maxHeartbeats 1000000 in
theorem clone_any (A : Option Addr) (l : List UInt8) (c : Nat) (w : World) (hb : Byt w w.heap.size A l) (hl : l.length ≤ 1099511627776) :
    Calls Try.prog 59 #[.slice A l.length c] w fun e w' => ∃ v, e = .returned v ∧ w'.ownsRow w.heap.size 5 1 v l.length (cellsB l) ∧ Below w.heap.size w w' := by
  obtain ⟨i0, hi0, hz0, hz1, hz2⟩ := info_parts info5
  cases A with
  | none =>
    obtain rfl : l = [] := by
      cases l with
      | nil => rfl
      | cons x t => obtain ⟨b, o, h, _⟩ := hb (by simp); cases h
    have hq := Lib.run_eql_slice_nil (P := Try.prog) w 25 5 none 0 c 0 0 Try.underlying25
    go_enter Try.func59, Try.ntmps59
    go_wp2
    go_ret
    exact ⟨_, rfl, World.ownsRow_nil _ _ _ _, Below.refl _ _⟩
  | some a =>
    have hq := Lib.run_eql_slice_nil (P := Try.prog) w 25 5 (some a) l.length c 0 0 Try.underlying25
    go_enter Try.func59, Try.ntmps59
    go_wp2_with (at_builtin; refine wpList_append_byt _ rfl (.tmp 5) (.tmp 6) _ rfl w.heap.size 5 i0 _ Try.underlying25 hi0 hz0 hz1 hz2 rfl _ 0 [] rfl (World.ownsRow_lit w #[] 0 (Nat.le_refl _) (by decide) rfl) w.heap.size _ _ _ l rfl rfl (hb.below ((Below.refl _ _).alloc (Nat.le_refl _) _)) (by omega) (by simp) ?_; intro v1 w1 hown1 hg1 hat1)
    go_ret
    refine ⟨v1, rfl, by simpa using hown1, ((Below.refl _ w).alloc (Nat.le_refl _) _).grown hg1 (by simp) fun k hk => ?_⟩
    exact ((World.ownsRow_lit (base := w.heap.size) (e := 5) (size := 1) w #[] 0 (Nat.le_refl _) (by decide) rfl).lt k hk).1

/-- a new reader -/
def NewRd (w : World) (l : List UInt8) (e : Ending) (w' : World) : Prop :=
  ∃ g, e = .returned (.pointer (some ⟨g, 0, none⟩)) ∧ w.heap.size ≤ g ∧ Rd w' g l 0 0 0 ∧ Below w.heap.size w w'
theorem new_any (A : Option Addr) (l : List UInt8) (c : Nat) (w : World) (hb : Byt w w.heap.size A l) (hl : l.length ≤ 1099511627776) :
    Calls Try.prog 31 #[.slice A l.length c] w (NewRd w l) := by
  have H := Lib.hid (clone_any A l c w hb hl)
  clear hb
  go_enter Try.func31, Try.ntmps31
  go_wp2_with (go_at_call 59; refine H.out.mono ?_; rintro e w' ⟨v, rfl, hown, hB⟩; obtain ⟨A2, c2, rfl, hc2⟩ := own_form hown)
  go_ret
  refine ⟨w'.heap.size, rfl, hB.size, ⟨by omega, hl, fun _ => rfl, A2, c2, hc2, Box.new _ _ _, ?_⟩, hB.alloc hB.size _⟩
  exact (Byt.own hown).below ((Below.refl _ _).alloc (Nat.le_refl _) _)
end Go.Proofs.Ytihkadbcjeohjaa
