/-
  What the program's Of, Fits, sumAt, Seal and the library's bytes.Clone answer.
  Conditions: the bytes lie in memory that was there; they are at most 2^40 (sumAt: at most four).
-/
import Derived.Test.YtohnhboeipckjaaGreatDoorSumMore
import Derived.Lib.SliceRun
namespace Go.Proofs.YtohnhboeipckjaaGreatDoor
open Go.RowKit

theorem info5S : (Tryz.prog.info? 5).map (fun i => (i.zero, i.size, i.bytes)) = some (some (.int .u8 0), 1, 1) := by kernel_rfl
theorem own_belowS {w w' : World} {base : Nat} {e : TypeId} {v : Value} {n : Nat} {xs : List Value} (h : w.ownsRow base e 1 v n xs) (hb : Below w.heap.size w w') : w'.ownsRow base e 1 v n xs := by
  refine ⟨h.1, ?_⟩
  rcases h.2 with h1 | ⟨g, cap, cur, hv, hg, hh, r⟩
  · exact .inl h1
  · exact .inr ⟨g, cap, cur, hv, hg, (hb.block g (Array.getElem?_eq_some_iff.1 hh).1).trans hh, r⟩
theorem Byt.one (w : World) (t : TypeId) (x : Int) (b : UInt8) (h : x = (b.toNat : Int)) : Byt (w.alloc (.cells #[.int .u8 x] t)) (w.heap.size + 1) (some ⟨w.heap.size, 0, Option.none⟩) [b] := fun _ => by
  refine ⟨w.heap.size, 0, rfl, by omega, fun k hk => ?_⟩
  have h0 : k = 0 := by simp at hk; exact hk
  subst h0
  subst h
  rw [cell_of_row _ _ _ _ _ _ (heap_alloc_new w _)]
  simp

theorem of_any (A : Option Addr) (l : List UInt8) (c : Nat) (w : World) (hb : Byt w w.heap.size A l) (hl : l.length ≤ 1099511627776) :
    Calls Tryz.prog 52 #[.slice A l.length c] w fun e w' => e = .returned (.int .u32 (crc l : Nat)) ∧ Below w.heap.size w w' := by
  have h : Calls Tryz.prog 66 #[.int .u32 0, .slice A l.length c] w fun e w' => e = .returned (.int .u32 (moreN 0 l : Nat)) ∧ Below w.heap.size w w' := more_any 0 A l c w (by omega) hb hl
  rw [moreN_zero] at h
  have H := Lib.hid h
  clear h
  go_enter Tryz.func52, Tryz.ntmps52
  go_wp2_with (go_at_call 66; refine H.out.mono ?_; rintro e W1 ⟨rfl, b1⟩)
  go_ret
  exact ⟨rfl, b1⟩

/-- is a sum that of bytes? -/
def fitB (l : List UInt8) (s : Nat) : Bool := crc l == s
theorem sumFits_any (A : Option Addr) (l : List UInt8) (c s : Nat) (w : World) (hb : Byt w w.heap.size A l) (hl : l.length ≤ 1099511627776) :
    Calls Tryz.prog 123 #[.slice A l.length c, .int .u32 (s : Int)] w fun e w' => e = .returned (.bool (fitB l s)) ∧ Below w.heap.size w w' := by
  have H := Lib.hid (of_any A l c w hb hl)
  go_enter Tryz.func123, Tryz.ntmps123
  go_wp2_with (go_at_call 52; refine H.out.mono ?_; rintro e W1 ⟨rfl, b1⟩)
  go_ret
  refine ⟨ret_boolS ?_, b1⟩
  unfold fitB
  rw [Bool.eq_iff_iff]
  simp only [beq_iff_eq]
  omega

set_option maxHeartbeats 1000000 in
theorem clone_anyS (A : Option Addr) (l : List UInt8) (c : Nat) (w : World) (hb : Byt w w.heap.size A l) (hl : l.length ≤ 1099511627776) :
    Calls Tryz.prog 42 #[.slice A l.length c] w fun e w' => ∃ v, e = .returned v ∧ w'.ownsRow w.heap.size 5 1 v l.length (cellsB l) ∧ Below w.heap.size w w' := by
  obtain ⟨i0, hi0, hz0, hz1, hz2⟩ := info_parts info5S
  cases A with
  | none =>
    obtain rfl : l = [] := by
      cases l with
      | nil => rfl
      | cons x t => obtain ⟨b, o, h, _⟩ := hb (by simp); cases h
    have hq := Lib.run_eql_slice_nil (P := Tryz.prog) w 31 5 none 0 c 0 0 Tryz.underlying31
    go_enter Tryz.func42, Tryz.ntmps42
    go_wp2
    go_ret
    exact ⟨_, rfl, World.ownsRow_nil _ _ _ _, Below.refl _ _⟩
  | some a =>
    have hq := Lib.run_eql_slice_nil (P := Tryz.prog) w 31 5 (some a) l.length c 0 0 Tryz.underlying31
    go_enter Tryz.func42, Tryz.ntmps42
    go_wp2_with (at_builtin; refine wpList_append_byt _ rfl (.tmp 5) (.tmp 6) _ rfl w.heap.size 5 i0 _ Tryz.underlying31 hi0 hz0 hz1 hz2 rfl _ 0 [] rfl (World.ownsRow_lit w #[] 0 (Nat.le_refl _) (by decide) rfl) w.heap.size _ _ _ l rfl rfl (hb.below ((Below.refl _ _).alloc (Nat.le_refl _) _)) (by omega) (by simp) ?_; intro v1 w1 hown1 hg1 hat1)
    go_ret
    refine ⟨v1, rfl, by simpa using hown1, ((Below.refl _ w).alloc (Nat.le_refl _) _).grown hg1 (by simp) fun k hk => ?_⟩
    exact ((World.ownsRow_lit (base := w.heap.size) (e := 5) (size := 1) w #[] 0 (Nat.le_refl _) (by decide) rfl).lt k hk).1
end Go.Proofs.YtohnhboeipckjaaGreatDoor
