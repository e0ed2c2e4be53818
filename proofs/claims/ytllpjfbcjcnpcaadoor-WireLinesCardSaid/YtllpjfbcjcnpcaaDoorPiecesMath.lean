/-
  Plain mathematics of texts that are cut at each /: the pieces of a text; that cutting into at most so many pieces tells the same ones, where there are no more; that a name has no / in it.
  Conditions: none.
-/
import Derived.Test.YtllpjfbcjcnpcaaDoorLabMath
import Derived.Shelf.Strings.SplitShaped
namespace Go.Proofs.YtllpjfbcjcnpcaaDoor
open Go.RowKit

def pieces : List UInt8 → List UInt8 → List (List UInt8)
  | w, [] => [w]
  | w, b :: t => if b = 47 then w :: pieces [] t else pieces (w ++ [b]) t

theorem pieces_app (a : List UInt8) : ∀ (w t : List UInt8), (47 : UInt8) ∉ a → pieces w (a ++ t) = pieces (w ++ a) t := by
  induction a with
  | nil => intro w t _; simp
  | cons b a ih =>
    intro w t h
    simp only [List.mem_cons, not_or] at h
    rw [List.cons_append, pieces, if_neg (fun e => h.1 e.symm), ih _ _ h.2, List.append_assoc]
    rfl
theorem pieces_slash (w t : List UInt8) : pieces w (47 :: t) = w :: pieces [] t := by rw [pieces, if_pos rfl]
theorem pieces_none (w a : List UInt8) (h : (47 : UInt8) ∉ a) : pieces w a = [w ++ a] := by
  have := pieces_app a w [] h
  rw [List.append_nil] at this
  rw [this]; rfl
theorem pieces_len : ∀ (s w : List UInt8), (pieces w s).length ≤ s.length + 1 := by
  intro s
  induction s with
  | nil => intro w; simp [pieces]
  | cons b s ih =>
    intro w
    unfold pieces
    split
    · have := ih []; simp; omega
    · have := ih (w ++ [b]); simp; omega
theorem pieces_pos : ∀ (s w : List UInt8), 1 ≤ (pieces w s).length := by
  intro s
  induction s with
  | nil => intro w; simp [pieces]
  | cons b s ih =>
    intro w
    unfold pieces
    split
    · simp
    · exact ih _
theorem pieces_size : ∀ (s w : List UInt8), ∀ x ∈ pieces w s, x.length ≤ w.length + s.length := by
  intro s
  induction s with
  | nil => intro w x hx; simp [pieces] at hx; subst hx; simp
  | cons b s ih =>
    intro w x hx
    unfold pieces at hx
    split at hx
    · rcases List.mem_cons.1 hx with rfl | hx
      · simp
      · have := ih [] x hx; simp at this ⊢; omega
    · have := ih _ x hx; simp at this ⊢; omega
theorem slash_or (s : List UInt8) : (47 : UInt8) ∉ s ∨ ∃ a b, s = a ++ 47 :: b ∧ (47 : UInt8) ∉ a := by
  induction s with
  | nil => exact .inl (by simp)
  | cons c s ih =>
    by_cases hc : c = 47
    · subst hc; exact .inr ⟨[], s, rfl, by simp⟩
    · rcases ih with h | ⟨a, b, rfl, h⟩
      · exact .inl (by simp [h]; exact fun e => hc e.symm)
      · exact .inr ⟨c :: a, b, rfl, by simp [h]; exact fun e => hc e.symm⟩
theorem idx_none {s : List UInt8} (h : (47 : UInt8) ∉ s) : Lib.index s [47] = -1 := by
  induction s with
  | nil => rfl
  | cons c s ih =>
    simp only [List.mem_cons, not_or] at h
    have e : ([47] : List UInt8).isPrefixOf (c :: s) = false := by simp [List.isPrefixOf, h.1]
    rw [Lib.index, e, ih h.2]
    rfl
theorem idx_hit : ∀ (a b : List UInt8), (47 : UInt8) ∉ a → Lib.index (a ++ 47 :: b) [47] = (a.length : Int) := by
  intro a
  induction a with
  | nil => intro b _; rw [List.nil_append, Lib.index]; simp [List.isPrefixOf]
  | cons c a ih =>
    intro b h
    simp only [List.mem_cons, not_or] at h
    have e : ([47] : List UInt8).isPrefixOf (c :: (a ++ 47 :: b)) = false := by simp [List.isPrefixOf, h.1]
    rw [List.cons_append, Lib.index, e, ih b h.2]
    have : ((a.length : Int) == -1) = false := by simp
    rw [this]
    simp
theorem splitK_pieces : ∀ (k : Nat) (s : List UInt8), ((pieces [] s).length ≤ k + 1 → Lib.splitK [47] 0 k s = pieces [] s) ∧ (k + 1 < (pieces [] s).length → (Lib.splitK [47] 0 k s).length = k + 1) := by
  intro k
  induction k with
  | zero =>
    intro s
    rcases slash_or s with h | ⟨a, b, rfl, h⟩
    · rw [pieces_none [] s h]; exact ⟨fun _ => rfl, fun h => by simp at h⟩
    · rw [pieces_app a [] _ h, pieces_slash]
      have := pieces_pos b []
      exact ⟨fun h => by rw [List.length_cons] at h; omega, fun _ => rfl⟩
  | succ k ih =>
    intro s
    rcases slash_or s with h | ⟨a, b, rfl, h⟩
    · rw [pieces_none [] s h, Lib.splitK, idx_none h]
      exact ⟨fun _ => rfl, fun h => by simp at h⟩
    · rw [pieces_app a [] _ h, pieces_slash, Lib.splitK, idx_hit a b h]
      have hne : ((a.length : Int) == -1) = false := by simp
      rw [hne, Int.toNat_natCast]
      have e1 : (a ++ 47 :: b).take (a.length + 0) = a := by simp
      have e2 : (a ++ 47 :: b).drop (a.length + ([47] : List UInt8).length) = b := by
        rw [show a.length + ([47] : List UInt8).length = (a ++ [47]).length by simp, show a ++ 47 :: b = (a ++ [47]) ++ b by simp, List.drop_left]
      rw [e1, e2]
      obtain ⟨i1, i2⟩ := ih b
      simp only [Bool.false_eq_true, if_false, List.nil_append, List.length_cons]
      exact ⟨fun h => by rw [i1 (by omega)], fun h => by rw [i2 (by omega)]⟩
theorem Gc_no47 {c : List UInt8} (h : Gc c) : (47 : UInt8) ∉ c := by
  intro hm
  obtain ⟨j, hj, e⟩ := List.getElem_of_mem hm
  have hb : byt c j = 47 := by rw [byt_get hj, e]; rfl
  obtain ⟨_, hg, hd⟩ := h
  have hv := gd_valid hg
  unfold gd metI at hg
  rw [if_neg hv] at hg
  unfold dec at hd hg
  rcases d4_cases (byt c 0) (byt c 1) (byt c 2) (byt c 3) with ⟨p, e⟩ | ⟨p, q, r, e⟩ | ⟨p, q, r, s, t, e⟩ | ⟨p, q, r, s, t, u, e⟩ | ⟨p, e⟩ <;> rw [e] at hd hg <;> simp only at hd hg
  · obtain rfl : j = 0 := by omega
    rw [hb] at hg
    exact absurd hg (by decide)
  · rcases (by omega : j = 0 ∨ j = 1) with rfl | rfl <;> omega
  · rcases (by omega : j = 0 ∨ j = 1 ∨ j = 2) with rfl | rfl | rfl <;> omega
  · rcases (by omega : j = 0 ∨ j = 1 ∨ j = 2 ∨ j = 3) with rfl | rfl | rfl | rfl <;> omega
  · have h0 : c.length ≠ 0 := by omega
    omega
theorem name_no47 {x : List UInt8} (h : nameB x = true) : (47 : UInt8) ∉ x := by
  intro hm
  have e := name_mask h
  rw [← e] at hm
  obtain ⟨c, hc, hx⟩ := List.mem_flatten.1 (show (47 : UInt8) ∈ (chunks x).flatten from hm)
  exact Gc_no47 (chunks_good x c hc) hx
end Go.Proofs.YtllpjfbcjcnpcaaDoor
