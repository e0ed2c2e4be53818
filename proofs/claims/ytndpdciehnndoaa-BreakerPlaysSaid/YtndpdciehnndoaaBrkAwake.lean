/-
  The statements' own awake: it answers true. An argument []Act, opened.
  Conditions: none.
-/
import Derived.Test.YtndpdciehnndoaaBrkDo
namespace Go.Proofs.Ytndpdciehnndoaa.Bk
open Go.RowKit

theorem Aft.below {w w' : World} {g B : Nat} {s : S} (h : Aft w g s w') (hB : B ≤ g) (hs : B ≤ w.heap.size) : Below B w w' :=
  ⟨h.2.os, h.2.tape, h.2.output, h.2.size, fun i hi => h.2.block i (by omega) (by intro e; injection e; omega)⟩
set_option maxHeartbeats 1000000 in
set_option maxRecDepth 100000 in
theorem awake_any (w : World) : Calls Try.prog 6 #[] w fun e w' => e = .returned (.bool true) ∧ Below w.heap.size w w' := by
  have hN : ∀ w, Calls Try.prog 7 #[.int .i64 1, .int .i64 10, .int .i64 1] w fun e w' => e = .returned (.pointer (some ⟨w.heap.size, 0, none⟩)) ∧ Brk w' w.heap.size (new 1 10 1) ∧ Below w.heap.size w w' :=
    fun w => new_any w (by decide) (by decide) (by decide)
  have hD : ∀ w g, Brk w g (new 1 10 1) → Calls Try.prog 14 #[.pointer (some ⟨g, 0, none⟩), .int .i64 5, .bool false] w fun e w' => e = .returned (.tuple #[]) ∧ Aft w g ⟨1, 10, 1, true, 1, 15, 0⟩ w' :=
    fun w g h => by
      have := done_any h 5 false
      have e : done (new 1 10 1) 5 false = ⟨1, 10, 1, true, 1, 15, 0⟩ := rfl
      rw [e] at this
      exact this
  have hS : ∀ w g, Brk w g ⟨1, 10, 1, true, 1, 15, 0⟩ → Calls Try.prog 8 #[.pointer (some ⟨g, 0, none⟩), .int .i64 14] w fun e w' => e = .returned (.int .i64 1) ∧ w = w' := fun w g h => state_is h 14 (by decide)
  have hT : ∀ w g, Brk w g ⟨1, 10, 1, true, 1, 15, 0⟩ → Calls Try.prog 8 #[.pointer (some ⟨g, 0, none⟩), .int .i64 15] w fun e w' => e = .returned (.int .i64 2) ∧ w = w' := fun w g h => state_is h 15 (by decide)
  have hU : ∀ w g, Brk w g ⟨1, 10, 1, true, 1, 15, 0⟩ → Calls Try.prog 18 #[.pointer (some ⟨g, 0, none⟩)] w fun e w' => e = .returned (.int .i64 15) ∧ w = w' := fun w g h => until_any h
  have HN := Lib.hid hN; have HD := Lib.hid hD; have HS := Lib.hid hS; have HT := Lib.hid hT; have HU := Lib.hid hU
  clear hN hD hS hT hU
  go_enter Try.func6, Try.ntmps6
  go_wp2_with (first
    | (go_at_call 7; (with_reducible refine (HN.out _).mono ?_); rintro e w1 ⟨rfl, hq1, hb1⟩; have Hq1 := Lib.hid hq1; have Hb1 := Lib.hid hb1; clear hq1 hb1)
    | (go_at_call 14; (with_reducible refine (HD.out _ _ Hq1.out).mono ?_); rintro e w2 ⟨rfl, hq2⟩; have Hq2 := Lib.hid hq2; have Hq3 := Lib.hid hq2.1; clear hq2)
    | (go_at_call 8; (with_reducible refine (HS.out _ _ Hq3.out).mono ?_); rintro e w3 ⟨rfl, rfl⟩)
    | (go_at_call 8; (with_reducible refine (HT.out _ _ Hq3.out).mono ?_); rintro e w3 ⟨rfl, rfl⟩)
    | (go_at_call 18; (with_reducible refine (HU.out _ _ Hq3.out).mono ?_); rintro e w3 ⟨rfl, rfl⟩))
  go_ret
  exact ⟨rfl, Hb1.out.trans (Hq2.out.below (Nat.le_refl _) Hb1.out.size)⟩
end Go.Proofs.Ytndpdciehnndoaa.Bk
