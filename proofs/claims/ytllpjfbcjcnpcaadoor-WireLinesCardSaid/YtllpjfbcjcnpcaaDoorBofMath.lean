/-
  Plain mathematics of waits: the wait behind another one, the n-th wait, the sum of the first waits, and what all tries take at most. It needs nothing of the program.
  Conditions: a plan is right (Good), where a fact asks it.
-/
import Derived.Test.YtllpjfbcjcnpcaaDoorTickMath
namespace Go.Proofs.YtllpjfbcjcnpcaaDoor.Bo

/-- a plan: retries, base, factor, cap -/
structure P where
  r : Int
  b : Int
  f : Int
  c : Int
/-- it is right -/
def P.Good (p : P) : Prop := 0 ≤ p.r ∧ p.r ≤ 1000 ∧ 1 ≤ p.b ∧ p.b ≤ p.c ∧ p.c ≤ 1099511627776 ∧ 1 ≤ p.f ∧ p.f ≤ 16
instance (p : P) : Decidable p.Good := inferInstanceAs (Decidable (_ ∧ _))
/-- the wait behind another one -/
def behind (p : P) (x : Int) : Int := min (timesT x p.f) p.c
/-- the n-th wait -/
def wait (p : P) : Nat → Int
  | 0 => p.b
  | k + 1 => behind p (wait p k)
/-- the sum of the first waits -/
def total (p : P) : Nat → Int
  | 0 => 0
  | k + 1 => addT (total p k) (wait p k)
/-- tries left, and what all tries take at most -/
def left (p : P) (n : Int) : Int := max (p.r + 1 - max n 0) 0
def worst (p : P) (t : Int) : Int := addT (timesT t (p.r + 1)) (total p p.r.toNat)

section
variable {p : P} (h : p.Good)
include h
theorem behind_up {x : Int} (h0 : p.b ≤ x) (h1 : x ≤ p.c) : x ≤ behind p x ∧ behind p x ≤ p.c := by
  obtain ⟨_, _, hb, _, hc, hf, hf'⟩ := h
  unfold behind timesT
  rw [ofT_id (n := x) (by omega) (by omega), ofT_id (n := p.f) (by omega) (by omega)]
  have hx : x * 1 ≤ x * p.f := Int.mul_le_mul_of_nonneg_left hf (by omega)
  rw [Int.mul_one] at hx
  have := ofT_mono hx
  rw [ofT_id (n := x) (by omega) (by omega)] at this
  omega
theorem wait_in (n : Nat) : p.b ≤ wait p n ∧ wait p n ≤ p.c := by
  induction n with
  | zero => exact ⟨Int.le_refl _, h.2.2.2.1⟩
  | succ k ih =>
    have := behind_up h ih.1 ih.2
    show p.b ≤ behind p (wait p k) ∧ behind p (wait p k) ≤ p.c
    omega
theorem wait_up (n : Nat) : wait p n ≤ wait p (n + 1) := (behind_up h (wait_in h n).1 (wait_in h n).2).1
theorem wait_pos (n : Nat) : 1 ≤ wait p n ∧ wait p n ≤ 1099511627776 := by
  have := wait_in h n
  obtain ⟨_, _, hb, _, hc, _, _⟩ := h
  omega
end
/-- once a wait is like the one ahead of it, all further ones are -/
theorem wait_stays {p : P} {k : Nat} (e : behind p (wait p k) = wait p k) : ∀ j, k ≤ j → wait p j = wait p k := by
  intro j hj
  induction j with
  | zero => obtain rfl : k = 0 := by omega
            rfl
  | succ j ih =>
    by_cases e' : k = j + 1
    · rw [e']
    · have := ih (by omega)
      show behind p (wait p j) = _
      rw [this, e]
theorem total_in (p : P) (n : Nat) : 0 ≤ total p n ∧ total p n ≤ 1099511627776 := by
  cases n with
  | zero => exact ⟨Int.le_refl _, show (0 : Int) ≤ 1099511627776 by decide⟩
  | succ k => exact ⟨addT_lo _ _, addT_hi _ _⟩
theorem times_next {w m : Int} (hw : 1 ≤ w) (hw' : w ≤ 1099511627776) (hm : 0 ≤ m) : addT (timesT w m) w = timesT w (m + 1) := by
  unfold addT timesT
  rw [ofT_id (n := w) (by omega) hw']
  by_cases h : m < 1099511627776
  · rw [ofT_id (n := m) hm (by omega), ofT_id (n := m + 1) (by omega) (by omega), Int.mul_add, Int.mul_one]
    have h0 : 0 ≤ w * m := Int.mul_nonneg (by omega) hm
    generalize w * m = x at *
    unfold ofT
    repeat' split
    all_goals omega
  · have hb : 1099511627776 ≤ w * 1099511627776 := by omega
    rw [ofT_big (n := m) (by omega), ofT_big (n := m + 1) (by omega), ofT_big (n := w * 1099511627776) hb]
    rw [ofT_id (n := 1099511627776) (by omega) (by omega), ofT_big (by omega)]
theorem times_zero {w : Int} : timesT w 0 = 0 := by
  unfold timesT
  rw [ofT_id (n := 0) (by omega) (by omega), Int.mul_zero, ofT_id (by omega) (by omega)]
/-- the sum, where all further waits are alike -/
theorem total_stays {p : P} (h : p.Good) {k : Nat} (e : behind p (wait p k) = wait p k) : ∀ n, k ≤ n → total p n = addT (total p k) (timesT (wait p k) (n - k)) := by
  intro n hn
  have hw := wait_pos h k
  have ht := total_in p k
  induction n with
  | zero =>
    obtain rfl : k = 0 := by omega
    rw [show ((0 : Nat) : Int) - ((0 : Nat) : Int) = 0 by omega, times_zero]
    rfl
  | succ j ih =>
    by_cases e' : k = j + 1
    · subst e'
      rw [Int.sub_self, times_zero]
      unfold addT
      rw [ofT_id (n := total p (j + 1)) ht.1 ht.2, ofT_id (n := 0) (by omega) (by omega), Int.add_zero, ofT_id ht.1 ht.2]
    · show addT (total p j) (wait p j) = _
      rw [ih (by omega), wait_stays e j (by omega), addT_assoc, times_next hw.1 hw.2 (by omega)]
      congr 2
      omega
theorem left_in {p : P} (h : p.Good) {n : Int} (h0 : 0 ≤ n) (h1 : n ≤ p.r + 1) : left p n = p.r + 1 - n := by
  obtain ⟨_, _, _⟩ := h
  unfold left
  omega
theorem total_next {p : P} (h : p.Good) (n : Nat) : total p (n + 1) = min (total p n + wait p n) 1099511627776 := by
  have hw := wait_pos h n
  have ht := total_in p n
  show addT _ _ = _
  unfold addT
  rw [ofT_id ht.1 ht.2, ofT_id (n := wait p n) (by omega) hw.2]
  unfold ofT
  repeat' split
  all_goals omega
theorem worst_mono (p : P) {s t : Int} (h : s ≤ t) : worst p s ≤ worst p t := addT_mono _ (timesT_mono _ h)
theorem worst_least {p : P} (h : p.Good) {t : Int} (h0 : 0 ≤ t) (h1 : t ≤ 1099511627776) : min (t * (p.r + 1)) 1099511627776 ≤ worst p t := by
  obtain ⟨hr, hr', _⟩ := h
  have ht := total_in p p.r.toNat
  unfold worst addT timesT
  rw [ofT_id h0 h1, ofT_id (n := p.r + 1) (by omega) (by omega), ofT_id ht.1 ht.2]
  have hp : 0 ≤ t * (p.r + 1) := Int.mul_nonneg h0 (by omega)
  generalize t * (p.r + 1) = x at *
  unfold ofT
  repeat' split
  all_goals omega
theorem worst_in (p : P) (t : Int) : 0 ≤ worst p t ∧ worst p t ≤ 1099511627776 := ⟨addT_lo _ _, addT_hi _ _⟩
end Go.Proofs.YtllpjfbcjcnpcaaDoor.Bo
