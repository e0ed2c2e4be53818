/-
  What the small functions under the wheel answer: whether a number is a tick, the nearest tick, a sum of ticks (the program's and the document's), how two numbers compare, which of two timers is due sooner or was set ahead of the other.
  Conditions: timers lie in blocks of their own.
-/
import Derived.Test.YtobodianbjfgfaaProg
import Derived.Test.YtobodianbjfgfaaFldMem
import Derived.Test.YtobodianbjfgfaaTickMath
import Derived.Test.YtobodianbjfgfaaWhlMath
import Derived.WalkKit
import Derived.StillTailTactics
import Derived.Deep.QuietTactic
import Derived.BigQuiet
import Derived.Shelf.SlSortCmp.QuietGrown
namespace Go.Proofs.Ytobodianbjfgfaa.Wh
open Go.RowKit Go.Sort

theorem ret_int {k : IntKind} {a b : Int} (h : a = b) : Ending.returned (.int k a) = .returned (.int k b) := by rw [h]
theorem ret_bool {a b : Bool} (h : a = b) : Ending.returned (.bool a) = .returned (.bool b) := by rw [h]

def goodB (n : Int) : Bool := decide (0 ≤ n ∧ n ≤ 1099511627776)
set_option maxHeartbeats 400000 in
theorem good_any (n : Int) (w : World) :
    Calls Try.prog 21 #[.int .i64 n] w fun e w' => e = .returned (.bool (goodB n)) ∧ w = w' := by
  by_cases h : 0 ≤ n
  all_goals
    go_enter Try.func21, Try.ntmps21
    go_wp2
    go_ret
    refine ⟨ret_bool ?_, rfl⟩
    simp only [goodB, Bool.decide_and, h]
    simp <;> omega
theorem good_yes {n : Int} (w : World) (h : goodB n = true) : Calls Try.prog 21 #[.int .i64 n] w fun e w' => e = .returned (.bool true) ∧ w = w' := by
  have := good_any n w
  rw [h] at this
  exact this
theorem good_no {n : Int} (w : World) (h : goodB n = false) : Calls Try.prog 21 #[.int .i64 n] w fun e w' => e = .returned (.bool false) ∧ w = w' := by
  have := good_any n w
  rw [h] at this
  exact this
set_option maxHeartbeats 400000 in
theorem of_any (n : Int) (w : World) :
    Calls Try.prog 28 #[.int .i64 n] w fun e w' => e = .returned (.int .i64 (ofT n)) ∧ w = w' := by
  go_enter Try.func28, Try.ntmps28
  go_wp2
  all_goals
    go_ret
    refine ⟨ret_int ?_, rfl⟩
    unfold ofT
    repeat' split
    all_goals (first | omega | (split at * <;> omega))
set_option maxHeartbeats 400000 in
theorem add_any (a b : Int) (w : World) :
    Calls Try.prog 23 #[.int .i64 a, .int .i64 b] w fun e w' => e = .returned (.int .i64 (addT a b)) ∧ w = w' := by
  have h1 := ofT_lo a; have h2 := ofT_hi a; have h3 := ofT_lo b; have h4 := ofT_hi b
  go_enter Try.func23, Try.ntmps23
  go_wp2_with (go_at_call 28; refine (of_any _ _).mono ?_; rintro e w' ⟨rfl, rfl⟩)
  go_ret
  exact ⟨rfl, rfl⟩
set_option maxHeartbeats 400000 in
theorem rof_any (n : Int) (w : World) :
    Calls Try.prog 22 #[.int .i64 n] w fun e w' => e = .returned (.int .i64 (ofT n)) ∧ w = w' := by
  by_cases h : n < 0
  · go_enter Try.func22, Try.ntmps22
    go_wp2
    go_ret
    exact ⟨ret_int (ofT_neg h).symm, rfl⟩
  · by_cases h' : 1099511627776 < n
    · go_enter Try.func22, Try.ntmps22
      go_wp2
      go_ret
      exact ⟨ret_int (ofT_big (by omega)).symm, rfl⟩
    · go_enter Try.func22, Try.ntmps22
      go_wp2
      go_ret
      exact ⟨ret_int (ofT_id (by omega) (by omega)).symm, rfl⟩
set_option maxHeartbeats 400000 in
theorem radd_any (a b : Int) (w : World) :
    Calls Try.prog 8 #[.int .i64 a, .int .i64 b] w fun e w' => e = .returned (.int .i64 (addT a b)) ∧ w = w' := by
  have h1 := ofT_lo a; have h2 := ofT_hi a; have h3 := ofT_lo b; have h4 := ofT_hi b
  go_enter Try.func8, Try.ntmps8
  go_wp2_with (go_at_call 22; refine (rof_any _ _).mono ?_; rintro e w' ⟨rfl, rfl⟩)
  go_ret
  exact ⟨rfl, rfl⟩

theorem nan_any (n : Int) (w : World) :
    Calls Try.prog 40 #[.int .i64 n] w fun e w' => e = .returned (.bool false) ∧ w = w' := by
  go_enter Try.func40, Try.ntmps40
  go_wp2
  go_ret
  exact ⟨rfl, rfl⟩
/-- how two numbers compare -/
def cmpI (x y : Int) : Int := if x < y then -1 else if y < x then 1 else 0
set_option maxHeartbeats 400000 in
theorem cmp_any (x y : Int) (w : World) :
    Calls Try.prog 36 #[.int .i64 x, .int .i64 y] w fun e w' => e = .returned (.int .i64 (cmpI x y)) ∧ w = w' := by
  by_cases h1 : x < y
  · go_enter Try.func36, Try.ntmps36
    go_wp2_with (go_at_call 40; refine (nan_any _ _).mono ?_; rintro e w' ⟨rfl, rfl⟩)
    go_ret
    exact ⟨ret_int (by simp [cmpI, h1]), rfl⟩
  · by_cases h2 : y < x
    all_goals
      go_enter Try.func36, Try.ntmps36
      go_wp2_with (go_at_call 40; refine (nan_any _ _).mono ?_; rintro e w' ⟨rfl, rfl⟩)
      go_ret
      exact ⟨ret_int (by unfold cmpI; repeat' split; all_goals omega), rfl⟩

theorem alloc_grow (w : World) (o : Obj) : w.alloc o = grow w #[o] := by
  unfold grow
  show { w with heap := w.heap.push o } = _
  simp
/-- a timer by its numbers, as cells -/
def T.cells (t : T) : List Value := [.int .i64 (t.h : Int), .int .i64 t.id, .int .i64 (t.due : Int)]
def En.cells (e : En) (k : Nat) : Array Value := #[.int .i64 (e.h : Int), .int .i64 e.id, .int .i64 (e.due : Int), .int .i64 (k : Int)]
set_option maxHeartbeats 400000 in
theorem older_any (x y : T) (w : World) :
    Calls Try.prog 34 #[.agg x.cells.toArray, .agg y.cells.toArray] w fun e w' => e = .returned (.int .i64 (cmpI (x.h : Int) (y.h : Int))) ∧ ∃ q os, w' = grow (w.drewN q) os := by
  unfold T.cells
  go_enter Try.func34, Try.ntmps34
  go_wp2_with (go_at_call 36; refine (cmp_any _ _ _).mono ?_; rintro e w' ⟨rfl, rfl⟩)
  go_ret
  exact ⟨rfl, 0, _, by rw [alloc_grow, alloc_grow, grow_grow]; rfl⟩
set_option maxHeartbeats 1000000 in
theorem sooner_any (x y : En) (w : World) (hx : w.cell? ⟨x.b, 2, none⟩ = some (.int .i64 (x.due : Int))) (hy : w.cell? ⟨y.b, 2, none⟩ = some (.int .i64 (y.due : Int))) :
    Calls Try.prog 32 #[.pointer (some ⟨x.b, 0, none⟩), .pointer (some ⟨y.b, 0, none⟩)] w fun e w' => e = .returned (.int .i64 (cmpI (x.due : Int) (y.due : Int))) ∧ ∃ q os, w' = grow (w.drewN q) os := by
  go_enter Try.func32, Try.ntmps32
  go_wp2
  go_quiet ((go_at_call 36; exact Calls.quiet_of_same ((cmp_any _ _ _).mono fun e w' ⟨h3, h4⟩ => ⟨h3, h4.symm⟩)))
  go_wp2
  go_ret
  exact ⟨rfl, _, #[], (grow_empty _).symm⟩
end Go.Proofs.Ytobodianbjfgfaa.Wh
