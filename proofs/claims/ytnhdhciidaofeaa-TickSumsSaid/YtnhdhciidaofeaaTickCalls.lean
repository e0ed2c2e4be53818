/-
  Contracts of package tick: what each of its functions answers, at all arguments, and that it leaves the world as it was.
  Conditions: the arguments are integers of Go's kind int (each fits 64 bits), where a walk asks it.
-/
import Derived.Test.YtnhdhciidaofeaaRows
import Derived.Test.YtnhdhciidaofeaaTickMath
import Derived.WalkKit
namespace Go.Proofs.Ytnhdhciidaofeaa
open Go.RowKit

theorem ret_int {k : IntKind} {a b : Int} (h : a = b) : Ending.returned (.int k a) = .returned (.int k b) := by rw [h]
theorem ret_bool {a b : Bool} (h : a = b) : Ending.returned (.bool a) = .returned (.bool b) := by rw [h]

set_option maxHeartbeats 400000 in
theorem of_any (n : Int) (w : World) :
    Calls Try.prog 10 #[.int .i64 n] w fun e w' => e = .returned (.int .i64 (ofT n)) ∧ w = w' := by
  go_enter Try.func10, Try.ntmps10
  go_wp2
  all_goals
    go_ret
    refine ⟨ret_int ?_, rfl⟩
    unfold ofT
    repeat' split
    all_goals (first | omega | (split at * <;> omega))

set_option maxHeartbeats 400000 in
theorem good_any (n : Int) (w : World) :
    Calls Try.prog 8 #[.int .i64 n] w fun e w' => e = .returned (.bool (goodB n)) ∧ w = w' := by
  by_cases h : 0 ≤ n
  all_goals
    go_enter Try.func8, Try.ntmps8
    go_wp2
    go_ret
    refine ⟨ret_bool ?_, rfl⟩
    simp [goodB, ofT]
    repeat' split
    all_goals (first | omega | simp <;> omega)

set_option maxHeartbeats 400000 in
theorem add_any (a b : Int) (w : World) :
    Calls Try.prog 11 #[.int .i64 a, .int .i64 b] w fun e w' => e = .returned (.int .i64 (addT a b)) ∧ w = w' := by
  have h1 := ofT_lo a; have h2 := ofT_hi a; have h3 := ofT_lo b; have h4 := ofT_hi b
  go_enter Try.func11, Try.ntmps11
  go_wp2_with (go_at_call 10; refine (of_any _ _).mono ?_; rintro e w' ⟨rfl, rfl⟩)
  go_ret
  exact ⟨rfl, rfl⟩

set_option maxHeartbeats 400000 in
theorem sub_any (a b : Int) (w : World) :
    Calls Try.prog 13 #[.int .i64 a, .int .i64 b] w fun e w' => e = .returned (.int .i64 (subT a b)) ∧ w = w' := by
  have h1 := ofT_lo a; have h2 := ofT_hi a; have h3 := ofT_lo b; have h4 := ofT_hi b
  go_enter Try.func13, Try.ntmps13
  go_wp2_with (go_at_call 10; refine (of_any _ _).mono ?_; rintro e w' ⟨rfl, rfl⟩)
  go_ret
  exact ⟨rfl, rfl⟩

set_option maxHeartbeats 400000 in
theorem due_any (a b : Int) (w : World) :
    Calls Try.prog 19 #[.int .i64 a, .int .i64 b] w fun e w' => e = .returned (.bool (dueB a b)) ∧ w = w' := by
  go_enter Try.func19, Try.ntmps19
  go_wp2_with (go_at_call 10; refine (of_any _ _).mono ?_; rintro e w' ⟨rfl, rfl⟩)
  go_ret
  exact ⟨rfl, rfl⟩

theorem times_val {a n : Int} (h0 : 0 ≤ a) (h1 : 0 ≤ n) (h2 : a * n ≤ 1099511627776) : ofT (a * n) = a * n := ofT_id (Int.mul_nonneg h0 h1) h2

set_option maxHeartbeats 400000 in
theorem times_any (a b : Int) (w : World) :
    Calls Try.prog 15 #[.int .i64 a, .int .i64 b] w fun e w' => e = .returned (.int .i64 (timesT a b)) ∧ w = w' := by
  have h1 := ofT_lo a; have h2 := ofT_hi a; have h3 := ofT_lo b; have h4 := ofT_hi b
  by_cases hz : 0 < ofT a
  · by_cases hq : 1099511627776 / ofT a < ofT b
    · have hd : 0 ≤ 1099511627776 / ofT a := Int.ediv_nonneg (by omega) h1
      go_enter Try.func15, Try.ntmps15
      go_wp2_with (go_at_call 10; refine (of_any _ _).mono ?_; rintro e w' ⟨rfl, rfl⟩)
      go_ret
      refine ⟨ret_int ?_, rfl⟩
      exact (ofT_big (times_over hz hq)).symm
    · have hp := times_under (n := ofT b) hz (by omega)
      have hp0 := Int.mul_nonneg h1 h3
      go_enter Try.func15, Try.ntmps15
      go_wp2_with (go_at_call 10; refine (of_any _ _).mono ?_; rintro e w' ⟨rfl, rfl⟩)
      go_ret
      refine ⟨ret_int ?_, rfl⟩
      exact (times_val h1 h3 hp).symm
  · have hp : ofT a * ofT b ≤ 1099511627776 := by
      have : ofT a = 0 := by omega
      rw [this]; simp
    have hp0 := Int.mul_nonneg h1 h3
    go_enter Try.func15, Try.ntmps15
    go_wp2_with (go_at_call 10; refine (of_any _ _).mono ?_; rintro e w' ⟨rfl, rfl⟩)
    go_ret
    refine ⟨ret_int ?_, rfl⟩
    exact (times_val h1 h3 hp).symm
end Go.Proofs.Ytnhdhciidaofeaa
