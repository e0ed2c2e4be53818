/-
  What the small functions under the queue answer: whether a number is a tick, how two numbers compare, the first of two that is not 0, and which of two entries is taken first.
  Conditions: entries lie in blocks of their own.
-/
import Derived.Test.YtkfkjpabollaoaaProg
import Derived.Test.YtkfkjpabollaoaaFldMem
import Derived.Test.YtkfkjpabollaoaaRdyMath
import Derived.WalkKit
import Derived.StillTailTactics
import Derived.Deep.QuietTactic
import Derived.BigQuiet
import Derived.Shelf.SlSortCmp.QuietGrown
namespace Go.Proofs.Ytkfkjpabollaoaa
open Go.RowKit Go.Sort

theorem ret_int {k : IntKind} {a b : Int} (h : a = b) : Ending.returned (.int k a) = .returned (.int k b) := by rw [h]
theorem ret_bool {a b : Bool} (h : a = b) : Ending.returned (.bool a) = .returned (.bool b) := by rw [h]

def goodB (n : Int) : Bool := decide (0 ≤ n ∧ n ≤ 1099511627776)
set_option maxHeartbeats 400000 in
theorem good_any (n : Int) (w : World) :
    Calls Try.prog 19 #[.int .i64 n] w fun e w' => e = .returned (.bool (goodB n)) ∧ w = w' := by
  by_cases h : 0 ≤ n
  all_goals
    go_enter Try.func19, Try.ntmps19
    go_wp2
    go_ret
    refine ⟨ret_bool ?_, rfl⟩
    simp only [goodB, Bool.decide_and, h]
    simp <;> omega

theorem nan_any (n : Int) (w : World) :
    Calls Try.prog 42 #[.int .i64 n] w fun e w' => e = .returned (.bool false) ∧ w = w' := by
  go_enter Try.func42, Try.ntmps42
  go_wp2
  go_ret
  exact ⟨rfl, rfl⟩
/-- how two numbers compare -/
def cmpI (x y : Int) : Int := if x < y then -1 else if y < x then 1 else 0
set_option maxHeartbeats 400000 in
theorem cmp_any (x y : Int) (w : World) :
    Calls Try.prog 30 #[.int .i64 x, .int .i64 y] w fun e w' => e = .returned (.int .i64 (cmpI x y)) ∧ w = w' := by
  by_cases h1 : x < y
  · go_enter Try.func30, Try.ntmps30
    go_wp2_with (go_at_call 42; refine (nan_any _ _).mono ?_; rintro e w' ⟨rfl, rfl⟩)
    go_ret
    exact ⟨ret_int (by simp [cmpI, h1]), rfl⟩
  · by_cases h2 : y < x
    all_goals
      go_enter Try.func30, Try.ntmps30
      go_wp2_with (go_at_call 42; refine (nan_any _ _).mono ?_; rintro e w' ⟨rfl, rfl⟩)
      go_ret
      exact ⟨ret_int (by unfold cmpI; repeat' split; all_goals omega), rfl⟩
/-- the first that is not 0 -/
def orI (x y : Int) : Int := if x = 0 then y else x
set_option maxHeartbeats 400000 in
theorem or_any (g c : Nat) (x y : Int) (w : World) (h0 : w.cell? ⟨g, 0, none⟩ = some (.int .i64 x)) (h1 : w.cell? ⟨g, 1, none⟩ = some (.int .i64 y)) :
    Calls Try.prog 29 #[.slice (some ⟨g, 0, none⟩) 2 c] w fun e w' => e = .returned (.int .i64 (orI x y)) ∧ w' = w := by
  by_cases hx : x = 0
  · have H0 : ((x : Int) != 0) = false := by simp [hx]
    by_cases hy : y = 0
    · have H1 : ((y : Int) != 0) = false := by simp [hy]
      have HX := Lib.hid hx
      have HY := Lib.hid hy
      clear hx hy
      go_enter Try.func29, Try.ntmps29
      go_wp2
      refine wp_loop_rounds 3 ?_
      rw [rounds_succ]
      go_wp2
      rw [rounds_succ]
      go_wp2
      rw [rounds_succ]
      go_wp2
      go_ret
      exact ⟨ret_int (by simp [orI, HX.out, HY.out]), rfl⟩
    · have H1 : ((y : Int) != 0) = true := by simp [hy]
      have HX := Lib.hid hx
      have HY := Lib.hid hy
      clear hx hy
      go_enter Try.func29, Try.ntmps29
      go_wp2
      refine wp_loop_rounds 3 ?_
      rw [rounds_succ]
      go_wp2
      rw [rounds_succ]
      go_wp2
      go_ret
      exact ⟨ret_int (by simp [orI, HX.out]), rfl⟩
  · have H0 : ((x : Int) != 0) = true := by simp [hx]
    have HX := Lib.hid hx
    clear hx
    go_enter Try.func29, Try.ntmps29
    go_wp2
    refine wp_loop_rounds 3 ?_
    rw [rounds_succ]
    go_wp2
    go_ret
    exact ⟨ret_int (by simp [orI, HX.out]), rfl⟩
/-- how byTurn parts two entries -/
def cfE (x y : En) : Int := orI (cmpI y.wt x.wt) (cmpI (x.h : Int) (y.h : Int))
theorem cfE_neg (x y : En) : cfE x y < 0 ↔ bef x y := by
  unfold cfE orI cmpI bef
  repeat' split
  all_goals omega
theorem cfE_neg_B (x y : En) : decide (cfE x y < 0) = befB x y := by
  unfold befB
  rw [decide_eq_decide]
  exact cfE_neg x y
/-- byTurn: it draws, and makes a block -/
def Made (w w' : World) : Prop := ∃ q os, w' = grow (w.drewN q) os
theorem Made.below {w w' : World} (h : Made w w') : Below w.heap.size w w' := by
  obtain ⟨q, os, rfl⟩ := h
  exact ⟨rfl, rfl, rfl, by rw [size_grow]; exact Nat.le_add_right _ _, fun i hi => by
    show (w.heap ++ os)[i]? = w.heap[i]?
    exact Array.getElem?_append_left hi⟩
theorem alloc_grow (w : World) (o : Obj) : w.alloc o = grow w #[o] := by
  unfold grow
  show { w with heap := w.heap.push o } = _
  simp
set_option maxHeartbeats 1000000 in
set_option maxRecDepth 100000 in
theorem turn_any (x y : En) (w : World) (hx1 : w.cell? ⟨x.b, 1, none⟩ = some (.int .i64 (x.h : Int))) (hx2 : w.cell? ⟨x.b, 2, none⟩ = some (.int .i64 x.wt)) (hy1 : w.cell? ⟨y.b, 1, none⟩ = some (.int .i64 (y.h : Int))) (hy2 : w.cell? ⟨y.b, 2, none⟩ = some (.int .i64 y.wt)) :
    Calls Try.prog 24 #[.pointer (some ⟨x.b, 0, none⟩), .pointer (some ⟨y.b, 0, none⟩)] w fun e w' => e = .returned (.int .i64 (cfE x y)) ∧ Made w w' := by
  have H1 := Lib.hid ((cmp_any y.wt x.wt w.drew).mono fun e w' ⟨h3, h4⟩ => (⟨h3, h4.symm⟩ : e = Ending.returned (.int .i64 (cmpI y.wt x.wt)) ∧ w' = w.drew))
  have H2 := Lib.hid ((cmp_any (x.h : Int) (y.h : Int) w.drew).mono fun e w' ⟨h3, h4⟩ => (⟨h3, h4.symm⟩ : e = Ending.returned (.int .i64 (cmpI (x.h : Int) (y.h : Int))) ∧ w' = w.drew))
  go_enter Try.func24, Try.ntmps24
  go_wp2
  refine wp_region_still_tail 18 (by kernel_rfl) (by kernel_rfl) ?_
  simp only [List.take_succ_cons, List.take_zero, List.drop_succ_cons, List.drop_zero]
  change wpStill _ _ w.drew _ _ _
  iterate 8 still_step
  still_call H1.out
  iterate 8 still_step
  still_call H2.out
  refine wpStill_nil ?_
  go_wp2_with (go_at_call 29; refine (or_any _ _ (cmpI y.wt x.wt) (cmpI (x.h : Int) (y.h : Int)) _ (by simp) (by simp)).mono ?_; rintro e w' ⟨rfl, rfl⟩)
  go_ret
  exact ⟨rfl, 1, #[_], by rw [← alloc_grow]; rfl⟩
end Go.Proofs.Ytkfkjpabollaoaa
