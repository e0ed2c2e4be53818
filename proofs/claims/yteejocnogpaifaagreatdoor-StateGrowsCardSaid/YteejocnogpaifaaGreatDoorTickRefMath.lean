/-
  Plain mathematics of the document's own answers for ticks: products made bit by bit, and powers stopped at 64 products, are the ticks that are nearest to product and power.
  Conditions: none.
-/
import Derived.Test.YteejocnogpaifaaGreatDoorTickMath
namespace Go.Proofs.YteejocnogpaifaaGreatDoor

theorem ofT_add_left {x y : Int} (hx : 0 ≤ x) (hy : 0 ≤ y) : ofT (ofT x + y) = ofT (x + y) := by
  by_cases h : x ≤ 1099511627776
  · rw [ofT_id hx h]
  · rw [ofT_big (n := x) (by omega), ofT_big (by omega), ofT_big (by omega)]
theorem ofT_mul_left {x y m : Int} (hx : 0 ≤ x) (hy : 0 ≤ y) (hm : 0 ≤ m) : ofT (x + ofT y * m) = ofT (x + y * m) := by
  by_cases h : y ≤ 1099511627776
  · rw [ofT_id hy h]
  · rw [ofT_big (n := y) (by omega)]
    by_cases hz : m = 0
    · subst hz; simp
    · have h1 : 1 ≤ m := by omega
      have e1 : 1099511627776 * 1 ≤ 1099511627776 * m := Int.mul_le_mul_of_nonneg_left h1 (by omega)
      have e2 : y * 1 ≤ y * m := Int.mul_le_mul_of_nonneg_left h1 hy
      rw [ofT_big (by omega), ofT_big (by omega)]
/-- what a round of the product by bits leaves as it is -/
def bitsT (out a n v : Int) : Prop := ofT (out + a * n) = v
theorem bitsT_odd {out a n v : Int} (ho : 0 ≤ out) (ha : 0 ≤ a) (ha' : a ≤ 1099511627776) (ho' : out ≤ 1099511627776) (hn : 0 < n) (hb : n % 2 = 1) (h : bitsT out a n v) : bitsT (addT out a) (addT a a) (n / 2) v := by
  unfold bitsT at *
  have hm : 0 ≤ n / 2 := by omega
  have e : n = 2 * (n / 2) + 1 := by omega
  unfold addT
  rw [ofT_id ha ha', ofT_id ho ho', ofT_mul_left (ofT_lo _) (by omega) hm, ofT_add_left (by omega) (Int.mul_nonneg (by omega) hm), ← h]
  congr 1
  have : a * n = a * (2 * (n / 2) + 1) := by rw [← e]
  rw [this, Int.mul_add, Int.mul_one, Int.add_mul, ← Int.mul_assoc a 2, Int.mul_comm a 2, Int.two_mul, Int.add_mul]
  omega
theorem bitsT_even {out a n v : Int} (ho : 0 ≤ out) (ha : 0 ≤ a) (ha' : a ≤ 1099511627776) (hn : 0 < n) (hb : ¬ n % 2 = 1) (h : bitsT out a n v) : bitsT out (addT a a) (n / 2) v := by
  unfold bitsT at *
  have hm : 0 ≤ n / 2 := by omega
  have e : n = 2 * (n / 2) := by omega
  unfold addT
  rw [ofT_id ha ha', ofT_mul_left ho (by omega) hm, ← h]
  congr 1
  have : a * n = a * (2 * (n / 2)) := by rw [← e]
  rw [this, ← Int.mul_assoc a 2, Int.mul_comm a 2, Int.two_mul]
theorem bitsT_start (a b : Int) : bitsT 0 (ofT a) (ofT b) (timesT a b) := by unfold bitsT timesT; simp
theorem bitsT_end {out a v : Int} (ho : 0 ≤ out) (ho' : out ≤ 1099511627776) (h : bitsT out a 0 v) : out = v := by
  unfold bitsT at h; rw [← h]; simp [ofT_id ho ho']

theorem pow2_le_iterT {b : Int} (hb : 2 ≤ ofT b) : ∀ j : Nat, (2 : Int) ^ j ≤ 1099511627776 → (2 : Int) ^ j ≤ iterT b j := by
  intro j
  induction j with
  | zero => intro _; simp [iterT]
  | succ j ih =>
    intro h
    have hp : (2 : Int) ^ (j + 1) = 2 ^ j * 2 := Int.pow_succ 2 j
    have h0 : (0 : Int) ≤ 2 ^ j := Int.pow_nonneg (by omega)
    have hj := ih (by omega)
    show _ ≤ ofT (ofT (iterT b j) * ofT b)
    rw [ofT_id (iterT_lo b j) (iterT_hi b j)]
    have h1 : (2 : Int) ^ j * 2 ≤ iterT b j * ofT b := Int.mul_le_mul hj hb (by omega) (iterT_lo b j)
    rw [hp]
    rw [hp] at h
    have := ofT_mono h1
    rwa [ofT_id (n := 2 ^ j * 2) (by omega) h] at this
theorem iterT_64 (b : Int) (j : Nat) (h : 64 ≤ j) : iterT b j = iterT b 64 := by
  have hb := ofT_lo b
  have key : ∃ k : Nat, k ≤ 64 ∧ timesT (iterT b k) b = iterT b k := by
    by_cases h2 : 2 ≤ ofT b
    · refine ⟨40, by omega, ?_⟩
      have h40 := pow2_le_iterT h2 40 (by decide)
      have hh := iterT_hi b 40
      have e : iterT b 40 = 1099511627776 := by
        have : (2 : Int) ^ 40 = 1099511627776 := by decide
        omega
      rw [e]
      show ofT (ofT 1099511627776 * ofT b) = _
      rw [ofT_id (n := 1099511627776) (by omega) (by omega)]
      exact ofT_big (by omega)
    · by_cases h1 : ofT b = 1
      · refine ⟨0, by omega, ?_⟩
        show ofT (ofT 1 * ofT b) = 1
        rw [h1]; decide
      · refine ⟨1, by omega, ?_⟩
        have h0 : ofT b = 0 := by omega
        rw [iterT_one, h0]
        show ofT (ofT 0 * ofT b) = 0
        rw [h0]; decide
  obtain ⟨k, hk, e⟩ := key
  rw [iterT_stays e j (by omega), iterT_stays e 64 hk]
theorem powT_min (b k : Int) (j : Nat) (h : (j : Int) ≤ ofT k) (h' : ¬ ((j : Int) < ofT k ∧ (j : Int) < 64)) (h64 : j ≤ 64) : powT b k = iterT b j := by
  unfold powT
  by_cases e : j = 64
  · subst e; exact iterT_64 b _ (by omega)
  · have : (ofT k).toNat = j := by omega
    rw [this]
end Go.Proofs.YteejocnogpaifaaGreatDoor
