/-
  Plain mathematics of ticks: the nearest tick of a number, sums, differences, products and powers of ticks, and that a power whose next product is the same stays. It needs nothing of the program.
  Conditions: none.
-/
namespace Go.Proofs.YtllpjfbcjcnpcaaDoor

/-- the nearest tick -/
def ofT (n : Int) : Int := if n < 0 then 0 else if 1099511627776 < n then 1099511627776 else n
def addT (a b : Int) : Int := ofT (ofT a + ofT b)
def subT (a b : Int) : Int := ofT (ofT a - ofT b)
def timesT (a b : Int) : Int := ofT (ofT a * ofT b)
def iterT (b : Int) : Nat → Int
  | 0 => 1
  | k + 1 => timesT (iterT b k) b
def powT (b k : Int) : Int := iterT b (ofT k).toNat
def goodB (n : Int) : Bool := decide (ofT n = n)
def dueB (a b : Int) : Bool := decide (ofT b ≤ ofT a)

theorem ofT_lo (n : Int) : 0 ≤ ofT n := by unfold ofT; split <;> (try split) <;> omega
theorem ofT_hi (n : Int) : ofT n ≤ 1099511627776 := by unfold ofT; split <;> (try split) <;> omega
theorem ofT_id {n : Int} (h : 0 ≤ n) (h' : n ≤ 1099511627776) : ofT n = n := by unfold ofT; split <;> (try split) <;> omega
theorem ofT_neg {n : Int} (h : n < 0) : ofT n = 0 := by unfold ofT; split <;> (try split) <;> omega
theorem ofT_big {n : Int} (h : 1099511627776 ≤ n) : ofT n = 1099511627776 := by unfold ofT; split <;> (try split) <;> omega
theorem ofT_ofT (n : Int) : ofT (ofT n) = ofT n := ofT_id (ofT_lo n) (ofT_hi n)
theorem ofT_mono {a b : Int} (h : a ≤ b) : ofT a ≤ ofT b := by
  unfold ofT; repeat' split
  all_goals omega
theorem goodB_ofT (n : Int) : goodB (ofT n) = true := by simp [goodB, ofT_ofT]
theorem addT_lo (a b : Int) : 0 ≤ addT a b := ofT_lo _
theorem addT_hi (a b : Int) : addT a b ≤ 1099511627776 := ofT_hi _
theorem subT_lo (a b : Int) : 0 ≤ subT a b := ofT_lo _
theorem subT_hi (a b : Int) : subT a b ≤ 1099511627776 := ofT_hi _
theorem timesT_lo (a b : Int) : 0 ≤ timesT a b := ofT_lo _
theorem timesT_hi (a b : Int) : timesT a b ≤ 1099511627776 := ofT_hi _
theorem addT_comm (a b : Int) : addT a b = addT b a := by unfold addT; rw [Int.add_comm]
theorem timesT_comm (a b : Int) : timesT a b = timesT b a := by unfold timesT; rw [Int.mul_comm]
theorem addT_ofT (a b : Int) : addT (ofT a) (ofT b) = addT a b := by unfold addT; rw [ofT_ofT, ofT_ofT]
theorem timesT_ofT (a b : Int) : timesT (ofT a) (ofT b) = timesT a b := by unfold timesT; rw [ofT_ofT, ofT_ofT]
theorem timesT_ofT_right (a b : Int) : timesT a (ofT b) = timesT a b := by unfold timesT; rw [ofT_ofT]
theorem addT_assoc (a b c : Int) : addT (addT a b) c = addT a (addT b c) := by
  have h := ofT_lo a; have h' := ofT_hi a; have g := ofT_lo b; have g' := ofT_hi b; have k := ofT_lo c; have k' := ofT_hi c
  show ofT (ofT (addT a b) + ofT c) = ofT (ofT a + ofT (addT b c))
  rw [ofT_id (addT_lo a b) (addT_hi a b), ofT_id (addT_lo b c) (addT_hi b c)]
  unfold addT
  generalize ofT a = x at *; generalize ofT b = y at *; generalize ofT c = z at *
  unfold ofT; repeat' split
  all_goals omega
theorem addT_mono {a b : Int} (c : Int) (h : a ≤ b) : addT a c ≤ addT b c := ofT_mono (by have := ofT_mono h; omega)
theorem subT_mono {a b : Int} (c : Int) (h : a ≤ b) : subT a c ≤ subT b c := ofT_mono (by have := ofT_mono h; omega)
theorem timesT_mono {a b : Int} (c : Int) (h : a ≤ b) : timesT a c ≤ timesT b c :=
  ofT_mono (Int.mul_le_mul_of_nonneg_right (ofT_mono h) (ofT_lo c))
theorem add_back {a b : Int} (h : addT a b < 1099511627776) : subT (addT a b) b = ofT a := by
  have ha := ofT_lo a; have ha' := ofT_hi a; have g := ofT_lo b; have g' := ofT_hi b
  unfold subT
  rw [ofT_id (addT_lo a b) (addT_hi a b)]
  revert h
  unfold addT
  generalize ofT a = x at *; generalize ofT b = y at *
  intro h
  have e : ofT (x + y) = x + y := by
    unfold ofT at h ⊢; repeat' split at h
    all_goals (repeat' split) <;> omega
  rw [e, ofT_id (by omega) (by omega)]; omega
theorem sub_back {a b : Int} (h : dueB a b = true) : addT (subT a b) b = ofT a := by
  have ha := ofT_lo a; have ha' := ofT_hi a; have g := ofT_lo b; have g' := ofT_hi b
  have hd : ofT b ≤ ofT a := by simpa [dueB] using h
  unfold addT
  rw [ofT_id (subT_lo a b) (subT_hi a b)]
  unfold subT
  generalize ofT a = x at *; generalize ofT b = y at *
  rw [ofT_id (n := x - y) (by omega) (by omega), ofT_id (by omega) (by omega)]; omega
/-- a product of two ticks, by a quotient -/
theorem times_over {a n : Int} (h0 : 0 < a) (h1 : 1099511627776 / a < n) : 1099511627776 ≤ a * n := by
  have h := Int.lt_mul_of_ediv_lt h0 h1
  rw [Int.mul_comm] at h
  omega
theorem times_under {a n : Int} (h0 : 0 < a) (h1 : n ≤ 1099511627776 / a) : a * n ≤ 1099511627776 := by
  have h := Int.mul_le_of_le_ediv h0 h1
  rw [Int.mul_comm] at h
  exact h
theorem iterT_lo (b : Int) (k : Nat) : 0 ≤ iterT b k := by
  cases k with
  | zero => simp [iterT]
  | succ k => exact timesT_lo _ _
theorem iterT_hi (b : Int) (k : Nat) : iterT b k ≤ 1099511627776 := by
  cases k with
  | zero => simp [iterT]
  | succ k => exact timesT_hi _ _
theorem iterT_stays {b : Int} {k : Nat} (h : timesT (iterT b k) b = iterT b k) : ∀ j, k ≤ j → iterT b j = iterT b k := by
  intro j hj
  induction j with
  | zero => obtain rfl : k = 0 := by omega
            rfl
  | succ j ih =>
    by_cases e : k = j + 1
    · rw [e]
    · have := ih (by omega)
      show timesT (iterT b j) b = _
      rw [this, h]
theorem powT_lo (b k : Int) : 0 ≤ powT b k := iterT_lo _ _
theorem powT_hi (b k : Int) : powT b k ≤ 1099511627776 := iterT_hi _ _
theorem powT_nat (b : Int) (k : Nat) (h : k ≤ 1099511627776) : powT b k = iterT b k := by
  unfold powT; rw [ofT_id (by omega) (by omega)]; simp
theorem iterT_one (b : Int) : iterT b 1 = ofT b := by
  show ofT (ofT 1 * ofT b) = ofT b
  rw [ofT_id (n := 1) (by omega) (by omega), Int.one_mul, ofT_ofT]
theorem iterT_ofT (b : Int) (k : Nat) : iterT (ofT b) k = iterT b k := by
  induction k with
  | zero => rfl
  | succ k ih => show timesT (iterT (ofT b) k) (ofT b) = timesT (iterT b k) b; rw [ih, timesT_ofT_right]
end Go.Proofs.YtllpjfbcjcnpcaaDoor
