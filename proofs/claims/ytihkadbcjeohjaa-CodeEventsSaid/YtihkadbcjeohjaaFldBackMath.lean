/-
  The mathematics of what was put: forms one behind the other are taken as they were.
  Conditions: as each theorem names them.
-/
import Derived.Test.YtihkadbcjeohjaaFldWrMath
import Derived.Test.YtihkadbcjeohjaaFldRefMath
namespace Go.Proofs.Ytihkadbcjeohjaa

/-- the last bytes of a number's form -/
theorem num8_back {v k : Nat} (hk : k < 8) : (num8 v).drop (8 - (k + 1)) = UInt8.ofNat (v / 256 ^ k) :: (num8 v).drop (8 - k) := by
  have hk' : k = 0 ∨ k = 1 ∨ k = 2 ∨ k = 3 ∨ k = 4 ∨ k = 5 ∨ k = 6 ∨ k = 7 := by omega
  rcases hk' with rfl | rfl | rfl | rfl | rfl | rfl | rfl | rfl <;> simp [num8]

/-- a number's form behind others is that number -/
theorem numAt_put (X Y : List UInt8) (v : Nat) (h : v < 18446744073709551616) : numAt (X ++ (num8 v ++ Y)) X.length = v := by
  unfold numAt
  rw [List.drop_left, List.take_append_of_le_length (by rw [num8_len]; omega), show (8 : Nat) = (num8 v).length from rfl, List.take_length, numV_num8 h]
theorem numE_put (X Y : List UInt8) (v : Nat) (h : v ≤ 4611686018427387904) : numE (X ++ (num8 v ++ Y)) X.length = 0 := by
  unfold numE
  rw [if_neg (by simp [num8_len]), numAt_put X Y v (by omega), if_neg (by omega)]
theorem numN_put (X Y : List UInt8) (v : Nat) (h : v ≤ 4611686018427387904) : numN (X ++ (num8 v ++ Y)) X.length = v := by
  unfold numN
  rw [numE_put X Y v h, if_pos rfl, numAt_put X Y v (by omega)]
theorem cut_put (X Y M : List UInt8) (v : Nat) : ((X ++ (num8 v ++ (M ++ Y))).drop (X.length + 8)).take M.length = M := by
  have e : X ++ (num8 v ++ (M ++ Y)) = (X ++ num8 v) ++ (M ++ Y) := by rw [List.append_assoc]
  have hl : X.length + 8 = (X ++ num8 v).length := by rw [List.length_append, num8_len]
  rw [e, hl, List.drop_left, List.take_left]
end Go.Proofs.Ytihkadbcjeohjaa
