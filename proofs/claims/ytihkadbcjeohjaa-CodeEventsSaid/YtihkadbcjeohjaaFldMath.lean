/-
  The mathematics of forms: the number that bytes tell, which error a form has, and what a reader does with it.
  Conditions: as each theorem names them.
-/
namespace Go.Proofs.Ytihkadbcjeohjaa

/-- the number that bytes tell, the highest first -/
def numV (l : List UInt8) : Nat := l.foldl (fun a b => 256 * a + b.toNat) 0
theorem numV_snoc (l : List UInt8) (b : UInt8) : numV (l ++ [b]) = 256 * numV l + b.toNat := by simp [numV, List.foldl_append]
theorem fold_lt (l : List UInt8) : ∀ (a k : Nat), a < 256 ^ k → l.foldl (fun a b => 256 * a + b.toNat) a < 256 ^ (k + l.length) := by
  induction l with
  | nil => intro a k h; simpa using h
  | cons b t ih =>
    intro a k h
    have hb := UInt8.toNat_lt b
    have h1 : 256 * a + b.toNat < 256 ^ (k + 1) := by rw [Nat.pow_succ]; omega
    have h2 := ih _ _ h1
    rw [List.foldl_cons, List.length_cons, show k + (t.length + 1) = k + 1 + t.length by omega]
    exact h2
theorem numV_lt (l : List UInt8) : numV l < 256 ^ l.length := by
  have h := fold_lt l 0 0 (by omega)
  simpa [numV] using h
theorem numV_lt7 (l : List UInt8) (h : l.length ≤ 7) : numV l < 72057594037927936 :=
  Nat.lt_of_lt_of_le (numV_lt l) (Nat.le_trans (Nat.pow_le_pow_right (by omega) h) (by decide))
theorem numV_lt8 (l : List UInt8) (h : l.length ≤ 8) : numV l < 18446744073709551616 :=
  Nat.lt_of_lt_of_le (numV_lt l) (Nat.le_trans (Nat.pow_le_pow_right (by omega) h) (by decide))

theorem cut_snoc (l : List UInt8) (p k : Nat) (h : p + k < l.length) : (l.drop p).take (k + 1) = (l.drop p).take k ++ [l[p + k]] := by
  rw [List.take_succ_eq_append_getElem (by simp; omega), List.getElem_drop]
theorem cut_len (l : List UInt8) (p k : Nat) : ((l.drop p).take k).length ≤ k := List.length_take_le _ _

/-- the number at a place -/
def numAt (l : List UInt8) (p : Nat) : Nat := numV ((l.drop p).take 8)
/-- its error: 2 short, 4 large -/
def numE (l : List UInt8) (p : Nat) : Nat := if l.length < p + 8 then 2 else if 4611686018427387904 < numAt l p then 4 else 0
/-- the number, or 0 -/
def numN (l : List UInt8) (p : Nat) : Nat := if numE l p = 0 then numAt l p else 0
theorem numE_cases (l : List UInt8) (p : Nat) : numE l p = 2 ∧ l.length < p + 8 ∨ numE l p = 4 ∧ p + 8 ≤ l.length ∧ 4611686018427387904 < numAt l p ∨ numE l p = 0 ∧ p + 8 ≤ l.length ∧ numAt l p ≤ 4611686018427387904 := by
  unfold numE
  by_cases h : l.length < p + 8
  · rw [if_pos h]; exact .inl ⟨rfl, h⟩
  · rw [if_neg h]
    by_cases h2 : 4611686018427387904 < numAt l p
    · rw [if_pos h2]; exact .inr (.inl ⟨rfl, by omega, h2⟩)
    · rw [if_neg h2]; exact .inr (.inr ⟨rfl, by omega, by omega⟩)
theorem numN_le (l : List UInt8) (p : Nat) : numN l p ≤ 4611686018427387904 := by
  unfold numN
  rcases numE_cases l p with ⟨h, _⟩ | ⟨h, _⟩ | ⟨h, _, h2⟩ <;> rw [h] <;> simp <;> omega
end Go.Proofs.Ytihkadbcjeohjaa
