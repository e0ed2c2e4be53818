/-
  What the program's More, Of, Fits and sumAt answer: the sum of bytes behind others, the sum of bytes, whether a sum is that of bytes, and the sum that four bytes tell.
  Conditions: the bytes lie in memory that was there; they are at most 2^40 (sumAt: at most four).
-/
import Derived.Test.YtohnhboeipckjaaGreatDoorSumTab
namespace Go.Proofs.YtohnhboeipckjaaGreatDoor
open Go.RowKit

theorem turn32 {s : Nat} (h : s < 4294967296) : bits .xor .u32 IntKind.u32.max (s : Int) = ((s ^^^ ones : Nat) : Int) := by
  have e := u32_xor_nat 4294967295 s (by omega) h
  rw [Nat.xor_comm] at e
  exact e
theorem xor8 (s : Nat) (b : UInt8) : bits .xor .u8 ((s : Int) % 256) (b.toNat : Int) = ((s % 256 ^^^ b.toNat : Nat) : Int) := by
  have e := u8_xor_nat (s % 256) b.toNat (by omega) (UInt8.toNat_lt b)
  exact e
theorem step32 {s : Nat} (b : UInt8) (h : s < 4294967296) : bits .xor .u32 ((s : Int) / 256) ((shs 8 (s % 256 ^^^ b.toNat) : Nat) : Int) = ((stp s b.toNat : Nat) : Int) := by
  have hb := UInt8.toNat_lt b
  have e := u32_xor_nat (s / 256) (shs 8 (s % 256 ^^^ b.toNat)) (by omega) (shs_lt 8 (Nat.lt_trans (xor_lt8 (by omega) hb) (by omega)))
  rw [stp_tab] at e
  exact e

set_option maxHeartbeats 1000000 in
set_option maxRecDepth 100000 in
theorem more_any (s : Nat) (A : Option Addr) (l : List UInt8) (c : Nat) (w : World) (hs : s < 4294967296) (hb : Byt w w.heap.size A l) (hl : l.length ≤ 1099511627776) :
    Calls Tryz.prog 66 #[.int .u32 (s : Int), .slice A l.length c] w fun e w' => e = .returned (.int .u32 (moreN s l : Nat)) ∧ Below w.heap.size w w' := by
  have hz := (zero_of_info info36).1
  have h32 := turn32 hs
  have hsg : IntKind.u32.signed = false := rfl
  go_enter Tryz.func66, Tryz.ntmps66
  go_wp2_with (first
    | (go_at_call 88; refine (bare_any _).mono ?_; rintro e W1 ⟨rfl, b1⟩)
    | (refine wpList_store_row rfl 125 (.tmp 5) (.tmp 9) rfl W1.heap.size 125 (tabA 0) (tabA 256) rfl rfl (heap_alloc_last _ _) (by rw [tabA_size]; exact size36) (by rw [tabA_size, tabA_size]) (tabA_one 256) ?_; rw [World.setRow_alloc_new]))
  clear hz h32
  have hB : Below w.heap.size w (W1.alloc (.cells (tabA 256) 125)) := b1.alloc b1.size _
  have hT : (W1.alloc (.cells (tabA 256) 125)).heap[W1.heap.size]? = some (.cells (tabA 256) 125 (0, 0)) := heap_alloc_last _ _
  have HT := Lib.hid hT
  clear hT
  generalize W1.alloc (.cells (tabA 256) 125) = W2 at *
  go_loop [6, 14] (fun v i => ∃ k : Nat, k ≤ l.length ∧ i = .int .i64 k ∧ v = .int .u32 (raw (s ^^^ ones) (l.take k) : Nat)) (fun _ i => l.length - (intOf i).toNat)
  case atStart => exact ⟨0, by omega, rfl, rfl⟩
  case round =>
    obtain ⟨k, hk, rfl, rfl⟩ := hrel
    have hlt := raw_lt (l.take k) (xor_lt hs ones_lt)
    by_cases h8 : k < l.length
    · have hsn := Lib.hid (raw_snoc (s ^^^ ones) l k h8)
      obtain ⟨b, o, rfl, hbl, hc0⟩ := hb.get h8
      have hc := (hB.cell (p := ⟨b, o + k, none⟩) hbl).trans hc0
      clear hc0
      obtain ⟨x, hx⟩ : ∃ x, x = l[k] := ⟨_, rfl⟩
      rw [← hx] at hc hsn
      obtain ⟨t, ht⟩ : ∃ t, t = raw (s ^^^ ones) (l.take k) := ⟨_, rfl⟩
      rw [← ht] at hlt hsn ⊢
      clear hx ht
      have hu := UInt8.toNat_lt x
      have h2 := xor8 t x
      have h3 := xor_lt8 (a := t % 256) (b := x.toNat) (by omega) hu
      have h4 : W2.cell? ⟨W1.heap.size, t % 256 ^^^ x.toNat, none⟩ = some (.int .u32 (shs 8 (t % 256 ^^^ x.toNat) : Nat)) := by rw [cell_of_row W2 _ _ _ _ _ HT.out, tabA_at h3 h3]
      have h5 := step32 x hlt
      go_wp2
      go_round
      case rel => exact ⟨k + 1, by omega, by go_num, by rw [hsn.out]⟩
      case measure => simp [intOf]; omega
    · obtain rfl : k = l.length := by omega
      rw [List.take_length] at hlt ⊢
      have h32 := turn32 hlt
      go_wp2
      go_ret
      exact ⟨rfl, hB⟩
end Go.Proofs.YtohnhboeipckjaaGreatDoor
