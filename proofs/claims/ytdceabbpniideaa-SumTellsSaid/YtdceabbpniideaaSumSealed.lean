/-
  What the program's Seal answers: the bytes, and their sum in four bytes behind them, in memory of its own.
  Conditions: the bytes lie in memory that was there; they are at most 2^40.
-/
import Derived.Test.YtdceabbpniideaaSumAt
namespace Go.Proofs.Ytdceabbpniideaa
open Go.RowKit

theorem le4_at {v k : Nat} (hk : k < 4) : (le4 v).take (k + 1) = (le4 v).take k ++ [UInt8.ofNat (v / 256 ^ k)] := by
  have hk' : k = 0 ∨ k = 1 ∨ k = 2 ∨ k = 3 := by omega
  rcases hk' with rfl | rfl | rfl | rfl <;> simp [le4]
theorem byte_of (q : Nat) : (q : Int) % 256 = ((UInt8.ofNat q).toNat : Int) := by rw [UInt8.toNat_ofNat']; omega

/-- where the loop of Seal stands -/
structure SealAt (w wr : World) (l : List UInt8) (v : Value) (k : Nat) : Prop where
  own : wr.ownsRow w.heap.size 5 1 v (l.length + k) (cellsB (l ++ (le4 (crc l)).take k))
  bel : Below w.heap.size w wr
theorem SealAt.next {w wr w1 : World} {l : List UInt8} {v v' : Value} {k : Nat} (h : SealAt w wr l v k) (hk : k < 4) (x : Value) (ho : w1.ownsRow w.heap.size 5 1 v' (l.length + k + 1) (cellsB (l ++ (le4 (crc l)).take k) ++ cellsB [UInt8.ofNat (crc l / 256 ^ k)]))
    (hg : (wr.alloc (.cells #[x] 5)).grownBy w1 v.ownBlock) : SealAt w w1 l v' (k + 1) := by
  refine ⟨?_, (h.bel.alloc h.bel.size _).grown hg (by have := h.bel.size; simp; omega) fun j hj => (h.own.lt j hj).1⟩
  rw [le4_at hk, ← List.append_assoc, cellsB_app (l ++ (le4 (crc l)).take k)]
  exact ho

set_option maxHeartbeats 2000000 in
set_option maxRecDepth 100000 in
theorem seal_any (A : Option Addr) (l : List UInt8) (c : Nat) (w : World) (hb : Byt w w.heap.size A l) (hl : l.length ≤ 1099511627776) :
    Calls Try.prog 12 #[.slice A l.length c] w fun e w' => ∃ v, e = .returned v ∧ w'.ownsRow w.heap.size 5 1 v (l.length + 4) (cellsB (sealL l)) ∧ Below w.heap.size w w' := by
  obtain ⟨i0, hi0, hz0, hz1, hz2⟩ := info_parts info5
  have HZ := Lib.hid hz2
  go_enter Try.func12, Try.ntmps12
  go_wp2_with (first
    | (refine wpList_make_own _ rfl _ _ 22 rfl w.heap.size 5 i0 _ 1 Try.underlying22 hi0 hz0 hz1 _ _ _ (l.length + 4) rfl rfl (by omega) (by rw [HZ.out]; omega) (by unfold maxLen; omega) (Nat.le_refl _) ?_; intro w1 hown1 hg1; have b1 : Below w.heap.size w w1 := (Below.refl _ _).grown hg1 (Nat.le_refl _) (by simp))
    | (at_builtin; refine wpList_append_byt _ rfl (.tmp 9) (.tmp 10) _ rfl w.heap.size 5 i0 _ Try.underlying22 hi0 hz0 hz1 hz2 rfl _ 0 [] rfl hown1 w.heap.size _ _ _ l rfl rfl (hb.below b1) (by omega) b1.size ?_; intro v2 w2 hown2 hg2 hat2; have b2 : Below w.heap.size w w2 := b1.grown hg2 b1.size (fun k hk => (hown1.lt k hk).1))
    | (go_at_call 10; (refine (of_any A l c _ ((hb.below b2).more b2.size) hl).mono ?_); rintro e W3 ⟨rfl, b3⟩))
  have hS : SealAt w W3 l v2 0 := ⟨own_below (by simpa using hown2) b3, b2.trans (b3.mono b2.size)⟩
  clear hown1 hown2 hg1 hg2 hat2 b1 b2 b3
  have hcl := crc_lt l
  go_loopw [3, 4, 14] (fun v s i wr => ∃ k : Nat, k ≤ 4 ∧ i = .int .i64 k ∧ s = .int .u32 (crc l / 256 ^ k : Nat) ∧ SealAt w wr l v k) (fun _ _ i _ => 4 - (intOf i).toNat)
  case atStart => exact ⟨0, by omega, rfl, by simp, hS⟩
  case round =>
    obtain ⟨k, hk, rfl, rfl, hR⟩ := hrel
    clear hS
    obtain ⟨q, hq⟩ : ∃ q, q = crc l / 256 ^ k := ⟨_, rfl⟩
    have hq2 : crc l / 256 ^ (k + 1) = q / 256 := by rw [Nat.pow_succ, ← Nat.div_div_eq_div_mul, ← hq]
    have hql : q < 4294967296 := by rw [hq]; exact Nat.lt_of_le_of_lt (Nat.div_le_self _ _) hcl
    rw [← hq]
    have HQ := Lib.hid hq
    have HQ2 := Lib.hid hq2
    clear hq hq2
    by_cases h8 : k < 4
    · go_wp2_with (at_builtin; refine wpList_append_byt _ rfl (.tmp 16) (.tmp 19) _ rfl w.heap.size 5 i0 _ Try.underlying22 hi0 hz0 hz1 hz2 rfl _ (l.length + k) _ rfl (hR.own.alloc _) (wr.heap.size + 1) _ _ _ [UInt8.ofNat q] rfl rfl (Byt.one wr 5 _ (UInt8.ofNat q) (byte_of q)) (by simp; omega) (by have := hR.bel.size; simp; omega) ?_; intro v2 w2 hown2 hg2 hat2)
      have hN := hR.next h8 _ (by rw [← HQ.out]; exact hown2) hg2
      clear hown2 hg2 hat2
      go_wp2
      go_roundw
      case rel => exact ⟨k + 1, by omega, by go_num, by rw [HQ2.out]; go_num, hN⟩
      case measure => simp [intOf]; omega
    · obtain rfl : k = 4 := by omega
      go_wp2
      go_ret
      exact ⟨_, rfl, hR.own, hR.bel⟩
end Go.Proofs.Ytdceabbpniideaa
