/-
  Contracts of the document's own answers for ticks (usufructref01): each gives the same tick as package tick, at all arguments, and leaves the world as it was.
  Conditions: none.
-/
import Derived.Test.YtnhdhciidaofeaaTickCalls
import Derived.Test.YtnhdhciidaofeaaTickRefMath
import Derived.LoopTactic
namespace Go.Proofs.Ytnhdhciidaofeaa
open Go.RowKit

set_option maxHeartbeats 400000 in
theorem rof_any (n : Int) (w : World) :
    Calls Try.prog 9 #[.int .i64 n] w fun e w' => e = .returned (.int .i64 (ofT n)) ∧ w = w' := by
  go_enter Try.func9, Try.ntmps9
  go_wp2
  all_goals
    go_ret
    refine ⟨ret_int ?_, rfl⟩
    unfold ofT
    repeat' split
    all_goals omega

set_option maxHeartbeats 400000 in
theorem radd_any (a b : Int) (w : World) :
    Calls Try.prog 12 #[.int .i64 a, .int .i64 b] w fun e w' => e = .returned (.int .i64 (addT a b)) ∧ w = w' := by
  have h1 := ofT_lo a; have h2 := ofT_hi a; have h3 := ofT_lo b; have h4 := ofT_hi b
  go_enter Try.func12, Try.ntmps12
  go_wp2_with (go_at_call 9; refine (rof_any _ _).mono ?_; rintro e w' ⟨rfl, rfl⟩)
  go_ret
  exact ⟨rfl, rfl⟩

set_option maxHeartbeats 400000 in
theorem rsub_any (a b : Int) (w : World) :
    Calls Try.prog 14 #[.int .i64 a, .int .i64 b] w fun e w' => e = .returned (.int .i64 (subT a b)) ∧ w = w' := by
  have h1 := ofT_lo a; have h2 := ofT_hi a; have h3 := ofT_lo b; have h4 := ofT_hi b
  go_enter Try.func14, Try.ntmps14
  go_wp2_with (go_at_call 9; refine (rof_any _ _).mono ?_; rintro e w' ⟨rfl, rfl⟩)
  go_ret
  exact ⟨rfl, rfl⟩

set_option maxHeartbeats 400000 in
theorem rtimes_any (a b : Int) (w : World) :
    Calls Try.prog 16 #[.int .i64 a, .int .i64 b] w fun e w' => e = .returned (.int .i64 (timesT a b)) ∧ w = w' := by
  have h1 := ofT_lo a; have h2 := ofT_hi a; have h3 := ofT_lo b; have h4 := ofT_hi b
  go_enter Try.func16, Try.ntmps16
  go_wp2_with (go_at_call 9; refine (rof_any _ _).mono ?_; rintro e w' ⟨rfl, rfl⟩)
  go_loop [0, 1, 5] (fun s0 s1 s5 => ∃ x n out : Int, 0 ≤ x ∧ x ≤ 1099511627776 ∧ 0 ≤ n ∧ n ≤ 1099511627776 ∧ 0 ≤ out ∧ out ≤ 1099511627776 ∧ s0 = .int .i64 x ∧ s1 = .int .i64 n ∧ s5 = .int .i64 out ∧ bitsT out x n (timesT a b)) (fun _ s1 _ => (intOf s1).toNat)
  case atStart => exact ⟨_, _, 0, h1, h2, h3, h4, by omega, by omega, rfl, rfl, rfl, bitsT_start a b⟩
  case round =>
    obtain ⟨x, n, out, hx, hx', hn, hn', ho, ho', rfl, rfl, rfl, hb⟩ := hrel
    by_cases hlt : 0 < n
    · by_cases hodd : n % 2 = 1
      · have HB := bitsT_odd ho hx hx' ho' hlt hodd hb
        have ht : ((n % 2 : Int) == 1) = true := by rw [hodd]; simp
        have l1 := addT_lo x x; have l2 := addT_hi x x; have l3 := addT_lo out x; have l4 := addT_hi out x
        clear hodd hb
        go_wp2_with (go_at_call 12; refine (radd_any _ _ _).mono ?_; rintro e w' ⟨rfl, rfl⟩)
        go_round
        case rel => exact ⟨_, _, _, l1, l2, by omega, by omega, l3, l4, rfl, rfl, rfl, HB⟩
        case measure => simp [intOf]; omega
      · have HB := bitsT_even ho hx hx' hlt hodd hb
        have ht : ((n % 2 : Int) == 1) = false := by simpa using hodd
        have l1 := addT_lo x x; have l2 := addT_hi x x
        clear hodd hb
        go_wp2_with (go_at_call 12; refine (radd_any _ _ _).mono ?_; rintro e w' ⟨rfl, rfl⟩)
        go_round
        case rel => exact ⟨_, _, _, l1, l2, by omega, by omega, ho, ho', rfl, rfl, rfl, HB⟩
        case measure => simp [intOf]; omega
    · go_wp2
      go_ret
      refine ⟨ret_int ?_, rfl⟩
      obtain rfl : n = 0 := by omega
      exact bitsT_end ho ho' hb

set_option maxHeartbeats 400000 in
theorem rpow_any (b k : Int) (w : World) :
    Calls Try.prog 18 #[.int .i64 b, .int .i64 k] w fun e w' => e = .returned (.int .i64 (powT b k)) ∧ w = w' := by
  have h1 := ofT_lo b; have h2 := ofT_hi b; have h3 := ofT_lo k; have h4 := ofT_hi k
  go_enter Try.func18, Try.ntmps18
  go_wp2_with (go_at_call 9; refine (rof_any _ _).mono ?_; rintro e w' ⟨rfl, rfl⟩)
  go_loop [5, 6] (fun p i => ∃ j : Nat, (j : Int) ≤ ofT k ∧ j ≤ 64 ∧ i = .int .i64 j ∧ p = .int .i64 (iterT b j)) (fun _ i => 64 - (intOf i).toNat)
  case atStart => exact ⟨0, by simpa using h3, by omega, rfl, rfl⟩
  case round =>
    obtain ⟨j, hj, hj', rfl, rfl⟩ := hrel
    by_cases hlt : (j : Int) < ofT k
    · by_cases h64 : j < 64
      · go_wp2_with (go_at_call 16; refine (rtimes_any _ _ _).mono ?_; rintro e w' ⟨rfl, rfl⟩)
        go_round
        case rel => exact ⟨j + 1, by omega, by omega, by go_num, by rw [timesT_ofT_right]; rfl⟩
        case measure => simp [intOf]; omega
      · go_wp2
        go_ret
        refine ⟨ret_int ?_, rfl⟩
        exact (powT_min b k j hj (by omega) hj').symm
    · go_wp2
      go_ret
      refine ⟨ret_int ?_, rfl⟩
      exact (powT_min b k j hj (by omega) hj').symm
end Go.Proofs.Ytnhdhciidaofeaa
