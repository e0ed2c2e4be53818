/-
  The mathematics of a number's form: its eight bytes, the highest first, and that they tell it.
  Conditions: as each theorem names them.
-/
import Derived.Test.YtihkadbcjeohjaaFldMath
namespace Go.Proofs.Ytihkadbcjeohjaa

/-- the number that has a form -/
def clp (n : Int) : Nat := (min (max n 0) 4611686018427387904).toNat
theorem clp_le (n : Int) : clp n ≤ 4611686018427387904 := by unfold clp; omega
theorem clp_of {n : Nat} (h : n ≤ 4611686018427387904) : clp (n : Int) = n := by unfold clp; omega

/-- its form -/
def num8 (n : Nat) : List UInt8 := [UInt8.ofNat (n / 72057594037927936), UInt8.ofNat (n / 281474976710656), UInt8.ofNat (n / 1099511627776), UInt8.ofNat (n / 4294967296), UInt8.ofNat (n / 16777216), UInt8.ofNat (n / 65536), UInt8.ofNat (n / 256), UInt8.ofNat n]
theorem num8_len (n : Nat) : (num8 n).length = 8 := rfl
/-- what the writer's loop has in its number behind so many bytes -/
def bitsK (n k : Nat) : Nat := n * 256 ^ k % 18446744073709551616
theorem bitsK_zero {n : Nat} (h : n ≤ 4611686018427387904) : bitsK n 0 = n := by unfold bitsK; rw [Nat.pow_zero, Nat.mul_one]; omega
theorem bitsK_lt (n k : Nat) : bitsK n k < 18446744073709551616 := Nat.mod_lt _ (by decide)
theorem bitsK_next (n k : Nat) : bitsK n (k + 1) = bitsK n k * 256 % 18446744073709551616 := by
  unfold bitsK
  rw [Nat.pow_succ, ← Nat.mul_assoc, Nat.mod_mul_mod]
theorem num8_at {n k : Nat} (hk : k < 8) : (num8 n).take (k + 1) = (num8 n).take k ++ [UInt8.ofNat (bitsK n k / 72057594037927936)] := by
  have e : ∀ a b : Nat, a % 256 = b % 256 → UInt8.ofNat a = UInt8.ofNat b := fun a b h => by
    apply UInt8.toNat_inj.1
    rw [UInt8.toNat_ofNat', UInt8.toNat_ofNat']
    exact h
  have hk' : k = 0 ∨ k = 1 ∨ k = 2 ∨ k = 3 ∨ k = 4 ∨ k = 5 ∨ k = 6 ∨ k = 7 := by omega
  rcases hk' with rfl | rfl | rfl | rfl | rfl | rfl | rfl | rfl <;> simp only [num8, bitsK, List.take, List.cons_append, List.nil_append, List.cons.injEq, and_true, true_and, Nat.reducePow, Nat.reduceAdd] <;> apply e <;> omega
theorem num8_all (n : Nat) : (num8 n).take 8 = num8 n := rfl

/-- its bytes tell it -/
theorem numV_num8 {n : Nat} (h : n < 18446744073709551616) : numV (num8 n) = n := by
  simp only [numV, num8, List.foldl_cons, List.foldl_nil, UInt8.toNat_ofNat']
  omega
end Go.Proofs.Ytihkadbcjeohjaa
