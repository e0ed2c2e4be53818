/-
  The law function ReadyPlays where it does not play: of more than 40 acts, and of a capacity or an ageing that no queue has.
  Conditions: as each theorem names them.
-/
import Derived.Test.YtkfkjpabollaoaaRdyRef3
import Derived.Test.YtkfkjpabollaoaaRdyArg
import Derived.WalkKit
namespace Go.Proofs.Ytkfkjpabollaoaa.readyPlays
open Go.ChangeShapes Go.WideShapes Go.ChangeAt Go.RowKit

set_option maxHeartbeats 16000000 in
set_option maxRecDepth 100000 in
theorem walk_long (cap age : Int) (A0 : Option Addr) (n ca : Nat) (w : World) (h40 : 40 < n) :
    Calls Try.prog 3 #[.int .i64 cap, .int .i64 age, .slice A0 n ca] w fun e w' => e = .returned (.bool true) ∧ Below w.heap.size w w' := by
  go_enter Try.func3, Try.ntmps3
  go_wp2_with (go_at_call 6; (with_reducible refine (awake_any _).mono ?_); rintro e w0 ⟨rfl, hb0⟩)
  go_ret
  exact ⟨rfl, hb0⟩
set_option maxHeartbeats 16000000 in
set_option maxRecDepth 100000 in
theorem walk_nil (cap age : Int) (A0 : Option Addr) (n ca : Nat) (w : World) (h40 : ¬ 40 < n) (hcr : cap < 1 ∨ 65536 < cap ∨ age < 1 ∨ 1048576 < age) :
    Calls Try.prog 3 #[.int .i64 cap, .int .i64 age, .slice A0 n ca] w fun e w' => e = .returned (.bool true) ∧ Below w.heap.size w w' := by
  have HNo := Lib.hid fun w => new_no cap age w hcr
  by_cases h1 : cap < 1
  · clear hcr
    go_enter Try.func3, Try.ntmps3
    go_wp2_with (first
      | (go_at_call 6; (with_reducible refine (awake_any _).mono ?_); rintro e w0 ⟨rfl, hb0⟩)
      | (go_at_call 7; (with_reducible refine (HNo.out _).mono ?_); rintro e w1 ⟨rfl, rfl⟩))
    go_ret
    exact ⟨rfl, hb0⟩
  · by_cases h2 : 65536 < cap
    · clear hcr
      go_enter Try.func3, Try.ntmps3
      go_wp2_with (first
        | (go_at_call 6; (with_reducible refine (awake_any _).mono ?_); rintro e w0 ⟨rfl, hb0⟩)
        | (go_at_call 7; (with_reducible refine (HNo.out _).mono ?_); rintro e w1 ⟨rfl, rfl⟩))
      go_ret
      exact ⟨rfl, hb0⟩
    · by_cases h3 : age < 1
      · clear hcr
        go_enter Try.func3, Try.ntmps3
        go_wp2_with (first
          | (go_at_call 6; (with_reducible refine (awake_any _).mono ?_); rintro e w0 ⟨rfl, hb0⟩)
          | (go_at_call 7; (with_reducible refine (HNo.out _).mono ?_); rintro e w1 ⟨rfl, rfl⟩))
        go_ret
        exact ⟨rfl, hb0⟩
      · have h4 : 1048576 < age := by omega
        clear hcr
        go_enter Try.func3, Try.ntmps3
        go_wp2_with (first
          | (go_at_call 6; (with_reducible refine (awake_any _).mono ?_); rintro e w0 ⟨rfl, hb0⟩)
          | (go_at_call 7; (with_reducible refine (HNo.out _).mono ?_); rintro e w1 ⟨rfl, rfl⟩))
        go_ret
        exact ⟨rfl, hb0⟩
end Go.Proofs.Ytkfkjpabollaoaa.readyPlays
