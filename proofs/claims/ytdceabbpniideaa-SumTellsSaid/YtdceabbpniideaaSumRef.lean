/-
  The document's own answers: the sum bit by bit (Of), and what is sealed (Seal).
  Conditions: the bytes lie in memory that was there; they are at most 2^40.
-/
import Derived.Test.YtdceabbpniideaaSumSealed
namespace Go.Proofs.Ytdceabbpniideaa
open Go.RowKit

theorem xor32b {s : Nat} (b : UInt8) (h : s < 4294967296) : bits .xor .u32 (s : Int) (b.toNat : Int) = ((s ^^^ b.toNat : Nat) : Int) := u32_xor_nat s b.toNat h (by have := UInt8.toNat_lt b; omega)
theorem ones32 {s : Nat} (h : s < 4294967296) : bits .xor .u32 (s : Int) 4294967295 = ((s ^^^ ones : Nat) : Int) := u32_xor_nat s 4294967295 h (by omega)
theorem sh_rem_one {m : Nat} (h : m < 4294967296) (h1 : m % 2 = 1) : bits .xor .u32 ((m : Int) / 2) 3988292384 = ((sh m : Nat) : Int) := by
  rw [xor_poly h]; unfold sh; rw [if_pos h1]
theorem sh_rem_none {m : Nat} (h1 : m % 2 = 0) : (m : Int) / 2 = ((sh m : Nat) : Int) := by
  unfold sh; rw [if_neg (by omega)]; omega

set_option maxHeartbeats 2000000 in
set_option maxRecDepth 100000 in
theorem refOf_any (A : Option Addr) (l : List UInt8) (c : Nat) (w : World) (hb : Byt w w.heap.size A l) (hl : l.length ≤ 1099511627776) :
    Calls Try.prog 11 #[.slice A l.length c] w fun e w' => e = .returned (.int .u32 (crc l : Nat)) ∧ w = w' := by
  go_enter Try.func11, Try.ntmps11
  go_wp2
  go_loop [3, 4] (fun v i => ∃ k : Nat, k ≤ l.length ∧ i = .int .i64 k ∧ v = .int .u32 (raw ones (l.take k) : Nat)) (fun _ i => l.length - (intOf i).toNat)
  case atStart => exact ⟨0, by omega, rfl, rfl⟩
  case round =>
    obtain ⟨k, hk, rfl, rfl⟩ := hrel
    have hlt := raw_lt (l.take k) ones_lt
    by_cases h8 : k < l.length
    · have hsn := Lib.hid (raw_snoc ones l k h8)
      obtain ⟨b, o, rfl, hbl, hc⟩ := hb.get h8
      obtain ⟨x, hx⟩ : ∃ x, x = l[k] := ⟨_, rfl⟩
      rw [← hx] at hc hsn
      obtain ⟨t, ht⟩ : ∃ t, t = raw ones (l.take k) := ⟨_, rfl⟩
      rw [← ht] at hlt hsn ⊢
      clear hx ht
      have hu := UInt8.toNat_lt x
      have h1 := xor32b x hlt
      go_wp2
      have hlt2 : t ^^^ x.toNat < 4294967296 := xor_lt hlt (by omega)
      clear h1
      go_loop [3, 5] (fun v i => ∃ j : Nat, j ≤ 8 ∧ i = .int .i64 j ∧ v = .int .u32 (shs j (t ^^^ x.toNat) : Nat)) (fun _ i => 8 - (intOf i).toNat)
      case atStart => exact ⟨0, by omega, rfl, rfl⟩
      case round =>
        obtain ⟨j, hj, rfl, rfl⟩ := hrel
        have hlt3 := shs_lt j hlt2
        have hst := Lib.hid (shs_last j (t ^^^ x.toNat))
        obtain ⟨m, hm⟩ : ∃ m, m = shs j (t ^^^ x.toNat) := ⟨_, rfl⟩
        rw [← hm] at hlt3 hst ⊢
        have HM := Lib.hid hm
        clear hm
        by_cases hj8 : j < 8
        · rcases Nat.mod_two_eq_zero_or_one m with hp | hp
          · have hp1 : (((m : Int) % 2) == 1) = false := by rw [show (m : Int) % 2 = 0 by omega]; rfl
            have HP := Lib.hid hp
            clear hp
            go_wp2
            go_round
            case rel => exact ⟨j + 1, by omega, by go_num, by rw [hst.out, sh_rem_none HP.out]⟩
            case measure => simp [intOf]; omega
          · have hp1 : (((m : Int) % 2) == 1) = true := by rw [show (m : Int) % 2 = 1 by omega]; rfl
            have HP := Lib.hid hp
            clear hp
            go_wp2
            go_round
            case rel => exact ⟨j + 1, by omega, by go_num, by rw [hst.out, sh_rem_one hlt3 HP.out]⟩
            case measure => simp [intOf]; omega
        · obtain rfl : j = 8 := by omega
          go_wp2
          go_round
          case rel => exact ⟨k + 1, by omega, by go_num, by rw [hsn.out, HM.out]; rfl⟩
          case measure => simp [intOf]; omega
    · obtain rfl : k = l.length := by omega
      rw [List.take_length] at hlt ⊢
      have h32 := ones32 hlt
      go_wp2
      go_ret
      exact ⟨rfl, rfl⟩

set_option maxHeartbeats 2000000 in
set_option maxRecDepth 100000 in
theorem refSeal_any (A : Option Addr) (l : List UInt8) (c : Nat) (w : World) (hb : Byt w w.heap.size A l) (hl : l.length ≤ 1099511627776) :
    Calls Try.prog 13 #[.slice A l.length c] w fun e w' => ∃ v, e = .returned v ∧ w'.ownsRow w.heap.size 5 1 v (l.length + 4) (cellsB (sealL l)) ∧ Below w.heap.size w w' := by
  obtain ⟨i0, hi0, hz0, hz1, hz2⟩ := info_parts info5
  have ho := World.ownsRow_lit (base := w.heap.size) (e := 5) (size := 1) w #[] 0 (Nat.le_refl _) (by decide) rfl
  have b1 : Below w.heap.size w (w.alloc (.cells #[] 5)) := (Below.refl _ _).alloc (Nat.le_refl _) _
  go_enter Try.func13, Try.ntmps13
  go_wp2_with (first
    | (go_at_call 11; (refine (refOf_any A l c _ hb hl).mono ?_); rintro e w' ⟨rfl, rfl⟩)
    | (at_builtin; refine wpList_append_byt _ rfl (.tmp 8) (.tmp 9) _ rfl w.heap.size 5 i0 _ Try.underlying22 hi0 hz0 hz1 hz2 rfl _ 0 [] rfl ho w.heap.size _ _ _ l rfl rfl (hb.below b1) (by omega) b1.size ?_; intro v2 w2 hown2 hg2 hat2; have b2 : Below w.heap.size w w2 := b1.grown hg2 b1.size (fun k hk => (ho.lt k hk).1)))
  have hS : SealAt w w2 l v2 0 := ⟨by simpa using hown2, b2⟩
  clear hown2 hg2 hat2 b1 b2 ho
  have hcl := crc_lt l
  go_loopw [3, 4, 5] (fun s v i wr => ∃ k : Nat, k ≤ 4 ∧ i = .int .i64 k ∧ s = .int .u32 (crc l / 256 ^ k : Nat) ∧ SealAt w wr l v k) (fun _ _ i _ => 4 - (intOf i).toNat)
  case atStart => exact ⟨0, by omega, rfl, by simp, hS⟩
  case round =>
    obtain ⟨k, hk, rfl, rfl, hR⟩ := hrel
    clear hS
    obtain ⟨q, hq⟩ : ∃ q, q = crc l / 256 ^ k := ⟨_, rfl⟩
    have hq2 : crc l / 256 ^ (k + 1) = q / 256 := by rw [Nat.pow_succ, ← Nat.div_div_eq_div_mul, ← hq]
    have hql : q < 4294967296 := by rw [hq]; exact Nat.lt_of_le_of_lt (Nat.div_le_self _ _) hcl
    rw [← hq]
    have HQ := Lib.hid hq
    have HQ2 := Lib.hid hq2
    clear hq hq2
    by_cases h8 : k < 4
    · go_wp2_with (at_builtin; refine wpList_append_byt _ rfl (.tmp 15) (.tmp 19) _ rfl w.heap.size 5 i0 _ Try.underlying22 hi0 hz0 hz1 hz2 rfl _ (l.length + k) _ rfl (hR.own.alloc _) (wr.heap.size + 1) _ _ _ [UInt8.ofNat q] rfl rfl (Byt.one wr 5 _ (UInt8.ofNat q) (byte_of q)) (by simp; omega) (by have := hR.bel.size; simp; omega) ?_; intro v2 w2 hown2 hg2 hat2)
      have hN := hR.next h8 _ (by rw [← HQ.out]; exact hown2) hg2
      clear hown2 hg2 hat2
      go_wp2
      go_roundw
      case rel => exact ⟨k + 1, by omega, by go_num, by rw [HQ2.out]; go_num, hN⟩
      case measure => simp [intOf]; omega
    · obtain rfl : k = 4 := by omega
      go_wp2
      go_ret
      exact ⟨_, rfl, hR.own, hR.bel⟩
end Go.Proofs.Ytdceabbpniideaa
