/-
  The law function BreakerPlays: of more than 60 acts, of numbers that no breaker has, and where it plays.
  Conditions: as each theorem names them.
-/
import Derived.Test.YtndpdciehnndoaaBrkArg
import Derived.Test.YtndpdciehnndoaaBrkRefs
import Derived.Deep.CutBlock
import Derived.Deep.DeepCutAuto
import Derived.Deep.RegionHeld3
namespace Go.Proofs.Ytndpdciehnndoaa.Bk
open Go.RowKit

set_option maxHeartbeats 4000000 in
set_option maxRecDepth 100000 in
theorem walk_long (t c p : Int) (A0 : Option Addr) (n ca : Nat) (w : World) (h60 : 60 < n) :
    Calls Try.prog 3 #[.int .i64 t, .int .i64 c, .int .i64 p, .slice A0 n ca] w fun e w' => e = .returned (.bool true) ∧ Below w.heap.size w w' := by
  go_enter Try.func3, Try.ntmps3
  go_wp2_with (go_at_call 6; (with_reducible refine (awake_any _).mono ?_); rintro e w0 ⟨rfl, hb0⟩)
  go_ret
  exact ⟨rfl, hb0⟩
set_option maxHeartbeats 4000000 in
set_option maxRecDepth 100000 in
theorem walk_nil (t c p : Int) (A0 : Option Addr) (n ca : Nat) (w : World) (h60 : ¬ 60 < n) (hcr : t < 1 ∨ 1000 < t ∨ c < 0 ∨ 1099511627776 < c ∨ p < 1 ∨ 1000 < p) :
    Calls Try.prog 3 #[.int .i64 t, .int .i64 c, .int .i64 p, .slice A0 n ca] w fun e w' => e = .returned (.bool true) ∧ Below w.heap.size w w' := by
  have HNo := Lib.hid fun w => new_no t c p w (by
    rcases hcr with h | h | h | h | h | h
    · exact .inl h
    · exact .inr (.inl h)
    · exact .inr (.inr (.inl (decide_eq_false (by omega))))
    · exact .inr (.inr (.inl (decide_eq_false (by omega))))
    · exact .inr (.inr (.inr (.inl h)))
    · exact .inr (.inr (.inr (.inr h))))
  by_cases h0 : t < 1
  · clear hcr
    go_enter Try.func3, Try.ntmps3
    go_wp2_with (first
      | (go_at_call 6; (with_reducible refine (awake_any _).mono ?_); rintro e w0 ⟨rfl, hb0⟩)
      | (go_at_call 7; (with_reducible refine (HNo.out _).mono ?_); rintro e w1 ⟨rfl, rfl⟩))
    go_ret
    exact ⟨rfl, hb0⟩
  by_cases h1 : 1000 < t
  · clear hcr
    go_enter Try.func3, Try.ntmps3
    go_wp2_with (first
      | (go_at_call 6; (with_reducible refine (awake_any _).mono ?_); rintro e w0 ⟨rfl, hb0⟩)
      | (go_at_call 7; (with_reducible refine (HNo.out _).mono ?_); rintro e w1 ⟨rfl, rfl⟩))
    go_ret
    exact ⟨rfl, hb0⟩
  by_cases h2 : c < 0
  · clear hcr
    go_enter Try.func3, Try.ntmps3
    go_wp2_with (first
      | (go_at_call 6; (with_reducible refine (awake_any _).mono ?_); rintro e w0 ⟨rfl, hb0⟩)
      | (go_at_call 7; (with_reducible refine (HNo.out _).mono ?_); rintro e w1 ⟨rfl, rfl⟩))
    go_ret
    exact ⟨rfl, hb0⟩
  by_cases h3 : 1099511627776 < c
  · clear hcr
    go_enter Try.func3, Try.ntmps3
    go_wp2_with (first
      | (go_at_call 6; (with_reducible refine (awake_any _).mono ?_); rintro e w0 ⟨rfl, hb0⟩)
      | (go_at_call 7; (with_reducible refine (HNo.out _).mono ?_); rintro e w1 ⟨rfl, rfl⟩))
    go_ret
    exact ⟨rfl, hb0⟩
  by_cases h4 : p < 1
  · clear hcr
    go_enter Try.func3, Try.ntmps3
    go_wp2_with (first
      | (go_at_call 6; (with_reducible refine (awake_any _).mono ?_); rintro e w0 ⟨rfl, hb0⟩)
      | (go_at_call 7; (with_reducible refine (HNo.out _).mono ?_); rintro e w1 ⟨rfl, rfl⟩))
    go_ret
    exact ⟨rfl, hb0⟩
  have h5 : 1000 < p := by omega
  clear hcr
  go_enter Try.func3, Try.ntmps3
  go_wp2_with (first
    | (go_at_call 6; (with_reducible refine (awake_any _).mono ?_); rintro e w0 ⟨rfl, hb0⟩)
    | (go_at_call 7; (with_reducible refine (HNo.out _).mono ?_); rintro e w1 ⟨rfl, rfl⟩))
  go_ret
  exact ⟨rfl, hb0⟩

/-- where the law's loop stands: the breaker, and the document's own numbers -/
structure At (w wr : World) (g gs : Nat) (s : S) (r : R) : Prop where
  le : w.heap.size ≤ g
  les : w.heap.size ≤ gs
  ne : g ≠ gs
  bel : Below w.heap.size w wr
  brk : Brk wr g s
  box : Box wr gs 27 r.cells
section
variable {w wr w' : World} {g gs : Nat} {s s' : S} {r r' : R}
theorem At.on (h : At w wr g gs s r) (hb : Below wr.heap.size wr w') : At w w' g gs s r :=
  ⟨h.le, h.les, h.ne, h.bel.trans (hb.mono h.bel.size), h.brk.below hb h.brk.box.lt, h.box.below hb h.box.lt⟩
theorem At.aft (h : At w wr g gs s r) (k : Aft wr g s' w') : At w w' g gs s' r :=
  ⟨h.le, h.les, h.ne, h.bel.trans (k.below h.le h.bel.size), k.1, h.box.grown k.2 (fun e => h.ne (by injection e with e; exact e.symm))⟩
theorem At.put (h : At w wr g gs s r) (r' : R) : At w (wr.setRow gs r'.cells) g gs s r' :=
  ⟨h.le, h.les, h.ne, below_putRow h.bel h.les _, ⟨(setRow_other wr gs g r'.cells h.ne).trans h.brk.box, h.brk.ok⟩, box_row h.box _⟩
theorem At.s4 (h : At w wr g gs s r) : wr.cell? ⟨gs, 0, none⟩ = some (.bool r.op) ∧ wr.cell? ⟨gs, 1, none⟩ = some (.int .i64 r.fl) ∧ wr.cell? ⟨gs, 2, none⟩ = some (.int .i64 r.un) ∧ wr.cell? ⟨gs, 3, none⟩ = some (.int .i64 r.ou) :=
  ⟨h.box.cell 0, h.box.cell 1, h.box.cell 2, h.box.cell 3⟩
end
theorem rok_of {s : S} (h : s.Ok) : ROk (refOf s) := by
  have h1 := h.fl; have h2 := h.ou; have h3 := h.probes
  refine ⟨?_, by show 0 ≤ s.ou ∧ s.ou ≤ 1000000; omega⟩
  show 0 ≤ (if s.tr = true then 0 else s.fl) ∧ (if s.tr = true then 0 else s.fl) ≤ 1000000
  split <;> omega
theorem same_trans {a b c : S} (h : Same a b) (k : Same b c) : Same a c := ⟨k.1.trans h.1, k.2.1.trans h.2.1, k.2.2.trans h.2.2⟩
end Go.Proofs.Ytndpdciehnndoaa.Bk
