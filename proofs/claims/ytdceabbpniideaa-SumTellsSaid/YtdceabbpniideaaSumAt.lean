/-
  What the program's sumAt answers: the number that at most four bytes tell, the lowest first.
  Conditions: the bytes lie in memory that was there; they are at most four.
-/
import Derived.Test.YtdceabbpniideaaSumSeal
namespace Go.Proofs.Ytdceabbpniideaa
open Go.RowKit

theorem val4_snoc : ∀ (l : List UInt8) (x : UInt8), val4 (l ++ [x]) = val4 l + x.toNat * 256 ^ l.length
  | [], x => by simp [val4]
  | b :: l, x => by
    show b.toNat + 256 * val4 (l ++ [x]) = b.toNat + 256 * val4 l + x.toNat * 256 ^ (l.length + 1)
    rw [val4_snoc l x, Nat.pow_succ, Nat.mul_add, ← Nat.mul_assoc, Nat.mul_comm 256 x.toNat, Nat.mul_assoc, Nat.mul_comm 256 (256 ^ l.length)]
    omega
theorem join_at (t x m i : Nat) (hm : m = 2 ^ i) (ht : t < m) (hx : x * m < 4294967296) (h32 : t < 4294967296) : bits .or .u32 (t : Int) ((x * m : Nat) : Int) = ((t + x * m : Nat) : Int) := by
  have e := u32_or_nat t (x * m) h32 hx
  rw [Nat.or_comm, nat_join i (x * m) t (by rw [hm]; exact Nat.mul_mod_left _ _) (by rw [← hm]; exact ht), Nat.add_comm] at e
  exact e
theorem join32 {t x k : Nat} (ht : t < 256 ^ k) (hk : k < 4) (hx : x < 256) : bits .or .u32 (t : Int) ((x : Int) * 2 ^ (8 * k) % 4294967296) = ((t + x * 256 ^ k : Nat) : Int) := by
  have hk' : k = 0 ∨ k = 1 ∨ k = 2 ∨ k = 3 := by omega
  rcases hk' with rfl | rfl | rfl | rfl
  · have e := join_at t x 1 0 rfl ht (by omega) (by omega)
    rw [show (x : Int) * 2 ^ (8 * 0) % 4294967296 = ((x * 1 : Nat) : Int) by rw [show (2 : Int) ^ (8 * 0) = 1 from rfl]; omega, e]
  · have e := join_at t x 256 8 rfl (by simpa using ht) (by omega) (by simp at ht; omega)
    rw [show (x : Int) * 2 ^ (8 * 1) % 4294967296 = ((x * 256 : Nat) : Int) by rw [show (2 : Int) ^ (8 * 1) = 256 from rfl]; omega, e]
  · have e := join_at t x 65536 16 rfl (by simpa using ht) (by omega) (by simp at ht; omega)
    rw [show (x : Int) * 2 ^ (8 * 2) % 4294967296 = ((x * 65536 : Nat) : Int) by rw [show (2 : Int) ^ (8 * 2) = 65536 from rfl]; omega, e]
  · have e := join_at t x 16777216 24 rfl (by simpa using ht) (by omega) (by simp at ht; omega)
    rw [show (x : Int) * 2 ^ (8 * 3) % 4294967296 = ((x * 16777216 : Nat) : Int) by rw [show (2 : Int) ^ (8 * 3) = 16777216 from rfl]; omega, e]

set_option maxHeartbeats 1000000 in
theorem sumAt_any (A : Option Addr) (l : List UInt8) (c : Nat) (w : World) (hb : Byt w w.heap.size A l) (hl : l.length ≤ 4) :
    Calls Try.prog 16 #[.slice A l.length c] w fun e w' => e = .returned (.int .u32 (val4 l : Nat)) ∧ w = w' := by
  go_enter Try.func16, Try.ntmps16
  go_wp2
  go_loop [3, 8] (fun v i => ∃ k : Nat, k ≤ l.length ∧ i = .int .i64 k ∧ v = .int .u32 (val4 (l.take k) : Nat)) (fun _ i => l.length - (intOf i).toNat)
  case atStart => exact ⟨0, by omega, rfl, rfl⟩
  case round =>
    obtain ⟨k, hk, rfl, rfl⟩ := hrel
    by_cases h8 : k < l.length
    · obtain ⟨b, o, rfl, hbl, hc⟩ := hb.get h8
      obtain ⟨x, hx⟩ : ∃ x, x = l[k] := ⟨_, rfl⟩
      rw [← hx] at hc
      obtain ⟨t, ht⟩ : ∃ t, t = val4 (l.take k) := ⟨_, rfl⟩
      have hkl : (l.take k).length = k := by rw [List.length_take]; omega
      have h1 : val4 (l.take (k + 1)) = t + x.toNat * 256 ^ k := by rw [List.take_succ_eq_append_getElem h8, val4_snoc, ← ht, hkl, ← hx]
      have h2 : t < 256 ^ k := by have := val4_lt (l.take k); rw [hkl, ← ht] at this; exact this
      rw [← ht]
      have H1 := Lib.hid h1
      have H2 := Lib.hid h2
      clear hx ht hkl h1 h2
      have hu := UInt8.toNat_lt x
      go_wp2
      go_round
      case rel => exact ⟨k + 1, by omega, by go_num, by rw [join32 H2.out (by omega) hu, H1.out]⟩
      case measure => simp [intOf]; omega
    · obtain rfl : k = l.length := by omega
      rw [List.take_length]
      go_wp2
      go_ret
      exact ⟨rfl, rfl⟩
end Go.Proofs.Ytdceabbpniideaa
