/-
  What the program's eightShifts answers: eight shifts of its number.
  Conditions: the number fits 32 bits.
-/
import Derived.Test.YtohnhboeipckjaaGreatDoorRows
import Derived.Test.YtohnhboeipckjaaGreatDoorSumMath
import Derived.WalkKit
import Derived.LoopTactic
import Derived.BigCall
import Derived.Lib.Hide
namespace Go.Proofs.YtohnhboeipckjaaGreatDoor
open Go.RowKit

theorem ret_intS {k : IntKind} {a b : Int} (h : a = b) : Ending.returned (.int k a) = .returned (.int k b) := by rw [h]
theorem ret_boolS {a b : Bool} (h : a = b) : Ending.returned (.bool a) = .returned (.bool b) := by rw [h]

theorem bit_one {m : Nat} (h : m < 4294967296) : bits .and .u32 (m : Int) 1 = ((m % 2 : Nat) : Int) := by
  have e := u32_and_nat m 1 h (by omega)
  rw [Nat.and_one_is_mod] at e
  exact e
theorem xor_poly {m : Nat} (h : m < 4294967296) : bits .xor .u32 ((m : Int) / 2) 3988292384 = ((m / 2 ^^^ poly : Nat) : Int) := by
  have e := u32_xor_nat (m / 2) 3988292384 (by omega) (by omega)
  exact e
theorem sh_one {m : Nat} (h : m < 4294967296) (h1 : (bits .and .u32 (m : Int) 1 == 1) = true) : bits .xor .u32 ((m : Int) / 2) 3988292384 = ((sh m : Nat) : Int) := by
  rw [bit_one h] at h1
  have h2 : m % 2 = 1 := by have := eq_of_beq h1; omega
  rw [xor_poly h]
  unfold sh
  rw [if_pos h2]
theorem sh_none {m : Nat} (h : m < 4294967296) (h1 : (bits .and .u32 (m : Int) 1 == 1) = false) : (m : Int) / 2 = ((sh m : Nat) : Int) := by
  rw [bit_one h] at h1
  have h2 : ¬ m % 2 = 1 := by intro e; rw [e] at h1; simp at h1
  unfold sh
  rw [if_neg h2]
  omega

set_option maxHeartbeats 400000 in
theorem shifts_any (n : Nat) (w : World) (hn : n < 4294967296) :
    Calls Tryz.prog 111 #[.int .u32 (n : Int)] w fun e w' => e = .returned (.int .u32 (shs 8 n : Nat)) ∧ w = w' := by
  go_enter Tryz.func111, Tryz.ntmps111
  go_wp2
  go_loop [0, 3] (fun v i => ∃ k : Nat, k ≤ 8 ∧ i = .int .i64 k ∧ v = .int .u32 (shs k n : Nat)) (fun _ i => 8 - (intOf i).toNat)
  case atStart => exact ⟨0, by omega, rfl, rfl⟩
  case round =>
    obtain ⟨k, hk, rfl, rfl⟩ := hrel
    have hlt := shs_lt k hn
    by_cases h8 : k < 8
    · go_wp2
      · have h1 : (bits .and .u32 ((shs k n : Nat) : Int) 1 == 1) = true := by assumption
        go_round
        case rel => exact ⟨k + 1, by omega, by go_num, by rw [sh_one hlt h1, shs_last]⟩
        case measure => simp [intOf]; omega
      · have h1 : (bits .and .u32 ((shs k n : Nat) : Int) 1 == 1) = false := by assumption
        go_round
        case rel => exact ⟨k + 1, by omega, by go_num, by rw [sh_none hlt h1, shs_last]⟩
        case measure => simp [intOf]; omega
    · go_wp2
      go_ret
      obtain rfl : k = 8 := by omega
      exact ⟨rfl, rfl⟩
end Go.Proofs.YtohnhboeipckjaaGreatDoor
