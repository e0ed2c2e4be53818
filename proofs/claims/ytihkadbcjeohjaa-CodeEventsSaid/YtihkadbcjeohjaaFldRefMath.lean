/-
  The mathematics of the document's own number: its first byte and the seven behind it tell whether it is above 2^62.
  Conditions: as each theorem names them.
-/
import Derived.Test.YtihkadbcjeohjaaFldMath
namespace Go.Proofs.Ytihkadbcjeohjaa

theorem fold_add (l : List UInt8) : ∀ a : Nat, l.foldl (fun a b => 256 * a + b.toNat) a = a * 256 ^ l.length + numV l := by
  induction l with
  | nil => intro a; simp [numV]
  | cons b t ih =>
    intro a
    have e0 : numV (b :: t) = (256 * 0 + b.toNat) * 256 ^ t.length + numV t := by
      have := ih (256 * 0 + b.toNat)
      rw [← this]
      rfl
    rw [List.foldl_cons, ih, List.length_cons, e0, Nat.pow_succ]
    have e1 : (256 * a + b.toNat) * 256 ^ t.length = a * (256 ^ t.length * 256) + b.toNat * 256 ^ t.length := by rw [Nat.add_mul]; congr 1; rw [Nat.mul_comm 256 a, Nat.mul_assoc, Nat.mul_comm 256]
    have e2 : (256 * 0 + b.toNat) * 256 ^ t.length = b.toNat * 256 ^ t.length := by rw [Nat.mul_zero, Nat.zero_add]
    omega
theorem numV_cons (x : UInt8) (t : List UInt8) : numV (x :: t) = x.toNat * 256 ^ t.length + numV t := by
  have h := fold_add t (256 * 0 + x.toNat)
  rw [Nat.mul_zero, Nat.zero_add] at h
  rw [numV, List.foldl_cons, Nat.mul_zero, Nat.zero_add, h]
theorem numV_app_le (l m : List UInt8) : numV l ≤ numV (l ++ m) := by
  have h := fold_add m (numV l)
  have e : numV (l ++ m) = numV l * 256 ^ m.length + numV m := by rw [← h]; simp [numV, List.foldl_append]
  have hp : 1 ≤ 256 ^ m.length := Nat.one_le_pow _ _ (by omega)
  have hm := Nat.mul_le_mul_left (numV l) hp
  omega
theorem numV_take_le (l : List UInt8) (k m : Nat) (h : k ≤ m) : numV (l.take k) ≤ numV (l.take m) := by
  have e : l.take m = l.take k ++ (l.take m).drop k := by
    have := (List.take_append_drop k (l.take m)).symm
    rw [List.take_take, Nat.min_eq_left h] at this
    exact this
  rw [e]
  exact numV_app_le _ _
theorem numV_zero (l : List UInt8) : numV l = 0 → l = List.replicate l.length 0 := by
  induction l with
  | nil => intro _; rfl
  | cons x t ih =>
    intro h
    rw [numV_cons] at h
    have hp : 1 ≤ 256 ^ t.length := Nat.one_le_pow _ _ (by omega)
    have hm := Nat.mul_le_mul_left x.toNat hp
    have hx : x = 0 := UInt8.toNat_inj.1 (by show x.toNat = 0; omega)
    rw [List.length_cons, List.replicate_succ, ← ih (by omega), hx]

/-- the eight bytes: the first one, and seven -/
theorem numAt_parts (l : List UInt8) (p : Nat) (h : p + 8 ≤ l.length) : numAt l p = l[p].toNat * 72057594037927936 + numV ((l.drop (p + 1)).take 7) ∧ numV ((l.drop (p + 1)).take 7) < 72057594037927936 := by
  have e : (l.drop p).take 8 = l[p] :: (l.drop (p + 1)).take 7 := by rw [List.drop_eq_getElem_cons (by omega), List.take_succ_cons]
  have hl : ((l.drop (p + 1)).take 7).length = 7 := by simp; omega
  refine ⟨?_, numV_lt7 _ (by omega)⟩
  unfold numAt
  rw [e, numV_cons, hl]
theorem large_first {l : List UInt8} {p : Nat} (h : p + 8 ≤ l.length) (hx : 64 < l[p].toNat) : 4611686018427387904 < numAt l p := by
  have := numAt_parts l p h
  omega
theorem large_rest {l : List UInt8} {p : Nat} (h : p + 8 ≤ l.length) (hx : l[p].toNat = 64) (hr : (l.drop (p + 1)).take 7 ≠ [0, 0, 0, 0, 0, 0, 0]) : 4611686018427387904 < numAt l p := by
  have h1 := numAt_parts l p h
  have hl : ((l.drop (p + 1)).take 7).length = 7 := by simp; omega
  have h2 : numV ((l.drop (p + 1)).take 7) ≠ 0 := fun e => hr (by have := numV_zero _ e; rw [hl] at this; exact this)
  omega
theorem small_first {l : List UInt8} {p : Nat} (h : p + 8 ≤ l.length) (hx : l[p].toNat < 64) : numAt l p ≤ 4611686018427387904 := by
  have := numAt_parts l p h
  omega
theorem small_rest {l : List UInt8} {p : Nat} (h : p + 8 ≤ l.length) (hx : l[p].toNat = 64) (hr : (l.drop (p + 1)).take 7 = [0, 0, 0, 0, 0, 0, 0]) : numAt l p ≤ 4611686018427387904 := by
  have h1 := numAt_parts l p h
  rw [hr] at h1
  have h2 : numV [0, 0, 0, 0, 0, 0, 0] = 0 := by decide
  omega
end Go.Proofs.Ytihkadbcjeohjaa
