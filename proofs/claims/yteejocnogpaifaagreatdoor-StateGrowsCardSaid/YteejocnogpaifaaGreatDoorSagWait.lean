/-
  Plain mathematics of the document's own wait: products alone, cut at the cap at the end, and stopped at 64 of them.
  Conditions: a plan is right, where a fact asks it.
-/
import Derived.Test.YteejocnogpaifaaGreatDoorBofMath
namespace Go.Proofs.YteejocnogpaifaaGreatDoor.Sa
open Go.Proofs.YteejocnogpaifaaGreatDoor.Bo

def raw (p : P) : Nat → Int
  | 0 => p.b
  | k + 1 => timesT (raw p k) p.f
section
variable {p : P} (h : p.Good)
include h
theorem times_ge {a : Int} (h0 : 0 ≤ a) (h1 : a ≤ 1099511627776) : a ≤ timesT a p.f := by
  obtain ⟨_, _, hb, _, hc, hf, hf'⟩ := h
  unfold timesT
  rw [ofT_id h0 h1, ofT_id (n := p.f) (by omega) (by omega)]
  have hx : a * 1 ≤ a * p.f := Int.mul_le_mul_of_nonneg_left hf h0
  rw [Int.mul_one] at hx
  have := ofT_mono hx
  rwa [ofT_id h0 h1] at this
theorem raw_in (k : Nat) : 1 ≤ raw p k ∧ raw p k ≤ 1099511627776 := by
  induction k with
  | zero =>
    obtain ⟨_, _, hb, _, hc, hf, hf'⟩ := h
    show 1 ≤ p.b ∧ p.b ≤ _
    omega
  | succ k ih =>
    have := times_ge h (a := raw p k) (by omega) (by omega)
    have h2 := timesT_hi (raw p k) p.f
    show 1 ≤ timesT (raw p k) p.f ∧ timesT (raw p k) p.f ≤ _
    omega
theorem wait_raw (k : Nat) : wait p k = min (raw p k) p.c := by
  induction k with
  | zero =>
    have := h.2.2.2.1
    show p.b = min p.b p.c
    omega
  | succ k ih =>
    have hr := raw_in h k
    have hc : 1 ≤ p.c ∧ p.c ≤ 1099511627776 := by obtain ⟨_, _, hb, _, hc, hf, hf'⟩ := h; omega
    show min (timesT (wait p k) p.f) p.c = min (timesT (raw p k) p.f) p.c
    rw [ih]
    by_cases hq : raw p k ≤ p.c
    · rw [show min (raw p k) p.c = raw p k by omega]
    · rw [show min (raw p k) p.c = p.c by omega]
      have h1 := times_ge h (a := p.c) (by omega) hc.2
      have h2 := times_ge h (a := raw p k) (by omega) hr.2
      omega
theorem wait_pow (hf : 2 ≤ p.f) : ∀ j : Nat, j ≤ 40 → min ((2 : Int) ^ j) p.c ≤ wait p j := by
  intro j
  induction j with
  | zero =>
    intro _
    have := wait_pos h 0
    rw [show ((2 : Int) ^ 0) = 1 from rfl]
    omega
  | succ j ih =>
    intro hj
    have h1 := ih (by omega)
    have hw := wait_in h j
    have hb := h.2.2.1
    have hc : p.c ≤ 1099511627776 := h.2.2.2.2.1
    have hf' : p.f ≤ 16 := h.2.2.2.2.2.2
    have hp : (2 : Int) ^ (j + 1) = 2 ^ j * 2 := Int.pow_succ 2 j
    have h0 : (0 : Int) ≤ 2 ^ j := Int.pow_nonneg (by omega)
    show _ ≤ min (timesT (wait p j) p.f) p.c
    unfold timesT
    rw [ofT_id (n := wait p j) (by omega) (by omega), ofT_id (n := p.f) (by omega) (by omega)]
    have hx : wait p j * 2 ≤ wait p j * p.f := Int.mul_le_mul_of_nonneg_left hf (by omega)
    generalize wait p j * p.f = y at *
    generalize (2 : Int) ^ j = z at *
    rw [hp]
    unfold ofT
    repeat' split
    all_goals omega
theorem wait_end : ∃ k, k ≤ 64 ∧ behind p (wait p k) = wait p k := by
  by_cases hf : 2 ≤ p.f
  · refine ⟨40, by omega, ?_⟩
    have h1 := wait_pow h hf 40 (by omega)
    have hw := wait_in h 40
    have hc : p.c ≤ 1099511627776 := h.2.2.2.2.1
    have hb := h.2.2.1
    have e : wait p 40 = p.c := by
      have : (2 : Int) ^ 40 = 1099511627776 := by decide
      omega
    have h2 := times_ge h (a := p.c) (by omega) hc
    rw [e]
    unfold behind
    omega
  · refine ⟨0, by omega, ?_⟩
    obtain ⟨_, _, hb, hbc, hc, hf1, _⟩ := h
    have e : p.f = 1 := by omega
    show min (timesT p.b p.f) p.c = p.b
    rw [e]
    unfold timesT
    rw [ofT_id (n := p.b) (by omega) (by omega), ofT_id (n := 1) (by omega) (by omega), Int.mul_one, ofT_id (by omega) (by omega)]
    omega
/-- what the document's loop of at most 64 products comes to -/
theorem wait_min {n : Int} {k : Nat} (hk : (k : Int) ≤ n) (h64 : k ≤ 64) (he : ¬ ((k : Int) < n ∧ (k : Int) < 64)) : wait p n.toNat = min (raw p k) p.c := by
  rw [← wait_raw h]
  by_cases e : k = 64
  · subst e
    obtain ⟨j, hj, hs⟩ := wait_end h
    rw [wait_stays hs n.toNat (by omega), wait_stays hs 64 hj]
  · rw [show n.toNat = k by omega]
end
end Go.Proofs.YteejocnogpaifaaGreatDoor.Sa
