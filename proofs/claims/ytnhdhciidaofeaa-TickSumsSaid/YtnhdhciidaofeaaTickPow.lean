/-
  The contract of tick.Pow: the nearest tick to the power, at all arguments; it leaves the world as it was.
  Conditions: none.
-/
import Derived.Test.YtnhdhciidaofeaaTickCalls
import Derived.LoopTactic
import Derived.WalkMore
namespace Go.Proofs.Ytnhdhciidaofeaa
open Go.RowKit

set_option maxHeartbeats 400000 in
theorem pow_any (b k : Int) (w : World) :
    Calls Try.prog 17 #[.int .i64 b, .int .i64 k] w fun e w' => e = .returned (.int .i64 (powT b k)) ∧ w = w' := by
  have h1 := ofT_lo b; have h2 := ofT_hi b; have h3 := ofT_lo k; have h4 := ofT_hi k
  go_enter Try.func17, Try.ntmps17
  go_wp2
  go_step3
  go_wp2_with (go_at_call 10; refine (of_any _ _).mono ?_; rintro e w' ⟨rfl, rfl⟩)
  go_step3
  go_wp2
  go_loop [5, 12] (fun p i => ∃ j : Nat, (j : Int) ≤ ofT k ∧ i = .int .i64 j ∧ p = .int .i64 (iterT b j)) (fun _ i => (ofT k).toNat - (intOf i).toNat)
  case atStart => exact ⟨0, by simpa using h3, rfl, rfl⟩
  case round =>
    obtain ⟨j, hj, rfl, rfl⟩ := hrel
    have hlo := iterT_lo b j
    have hhi := iterT_hi b j
    by_cases hlt : (j : Int) < ofT k
    · by_cases hq : timesT (iterT b j) (ofT b) = iterT b j
      · have hb : (timesT (iterT b j) (ofT b) == iterT b j) = true := by rw [hq]; simp
        have HQ : Hid (timesT (iterT b j) (ofT b) = iterT b j) := hq
        clear hq
        go_wp2_with (go_at_call 15; refine (times_any _ _ _).mono ?_; rintro e w' ⟨rfl, rfl⟩)
        rw [Exit.noGoto_ret]
        go_ret
        refine ⟨ret_int ?_, rfl⟩
        exact (iterT_stays (by rw [← timesT_ofT_right]; exact HQ.out) _ (by omega)).symm
      · have hb : (timesT (iterT b j) (ofT b) == iterT b j) = false := by simpa using hq
        go_wp2_with (go_at_call 15; refine (times_any _ _ _).mono ?_; rintro e w' ⟨rfl, rfl⟩)
        go_round
        case rel => exact ⟨j + 1, by omega, by go_num, by rw [timesT_ofT_right]; rfl⟩
        case measure => simp [intOf]; omega
    · go_wp2
      go_ret
      refine ⟨ret_int ?_, rfl⟩
      unfold powT
      congr 1
      omega

theorem pow_ex1 : powT 2 41 = 1099511627776 := by decide +kernel
theorem pow_ex2 : powT 2 10 = 1024 := by decide +kernel
theorem add_ex : addT 1099511627776 1 = 1099511627776 := by decide +kernel
theorem sub_ex : subT 3 5 = 0 := by decide +kernel
theorem pow_c (w : World) (b k v : Int) (h : powT b k = v) : Calls Try.prog 17 #[.int .i64 b, .int .i64 k] w fun e w' => e = .returned (.int .i64 v) ∧ w = w' := by subst h; exact pow_any b k w
theorem add_c (w : World) (b k v : Int) (h : addT b k = v) : Calls Try.prog 11 #[.int .i64 b, .int .i64 k] w fun e w' => e = .returned (.int .i64 v) ∧ w = w' := by subst h; exact add_any b k w
theorem sub_c (w : World) (b k v : Int) (h : subT b k = v) : Calls Try.prog 13 #[.int .i64 b, .int .i64 k] w fun e w' => e = .returned (.int .i64 v) ∧ w = w' := by subst h; exact sub_any b k w

set_option maxHeartbeats 400000 in
theorem awake_any (w : World) : Calls Try.prog 7 #[] w fun e w' => e = .returned (.bool true) ∧ w = w' := by
  go_enter Try.func7, Try.ntmps7
  go_wp2_with (first
    | (go_at_call 11; (with_reducible refine (add_c _ _ _ _ add_ex).mono ?_); rintro e w' ⟨rfl, rfl⟩)
    | (go_at_call 13; (with_reducible refine (sub_c _ _ _ _ sub_ex).mono ?_); rintro e w' ⟨rfl, rfl⟩)
    | (go_at_call 17; (with_reducible refine (pow_c _ 2 41 _ pow_ex1).mono ?_); rintro e w' ⟨rfl, rfl⟩)
    | (go_at_call 17; (with_reducible refine (pow_c _ 2 10 _ pow_ex2).mono ?_); rintro e w' ⟨rfl, rfl⟩))
  go_ret
  exact ⟨rfl, rfl⟩
end Go.Proofs.Ytnhdhciidaofeaa
