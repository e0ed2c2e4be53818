/-
  What the program's payloadSize and Get answer: the record at a place of bytes, or what is wrong with it.
  Conditions: the bytes lie in memory that was there; they are at most 2^40.
-/
import Derived.Test.YtohnhboeipckjaaGreatDoorRecWord
import Derived.StillTailTactics
import Derived.Deep.Draws
import Derived.Deep.QuietTactic
import Derived.BigQuiet
namespace Go.Proofs.YtohnhboeipckjaaGreatDoor
open Go.RowKit

theorem Byt.drew {w : World} {B : Nat} {A : Option Addr} {l : List UInt8} (h : Byt w B A l) : Byt w.drew B A l := h
theorem below_drew {w W : World} (b : Below w.drew.heap.size w.drew W) : Below w.heap.size w W := ⟨b.os, b.tape, b.output, b.size, b.block⟩
/-- what payloadSize answers -/
def paySize (l : List UInt8) : Ending := .returned (.tuple #[.int .i64 ((if headE l = 0 then lenB l else 0 : Nat) : Int), .int .i64 ((headE l : Nat) : Int)])
theorem paySize_no {l : List UInt8} {n : Nat} (h : headE l = n) (hn : n ≠ 0) : paySize l = .returned (.tuple #[.int .i64 0, .int .i64 (n : Int)]) := by
  unfold paySize; rw [h, if_neg hn]; rfl
theorem head_at {l : List UInt8} (h : 0 < l.length) : l.head? = some l[0] := by
  cases l with
  | nil => simp at h
  | cons x t => rfl

set_option maxHeartbeats 1000000 in
set_option maxRecDepth 100000 in
theorem pay_head (A : Option Addr) (l : List UInt8) (c : Nat) (w : World) (hb : Byt w w.heap.size A l) (hl : l.length ≤ 1099511627776) (h9 : l.head? ≠ some 90 ∨ l.length < 9) :
    Calls Tryz.prog 122 #[.slice A l.length c] w fun e w' => e = paySize l ∧ Below w.heap.size w w' := by
  by_cases h0 : 0 < l.length
  · obtain ⟨b, o, rfl, hbl, hc0⟩ := hb.get h0
    have hh := head_at h0
    obtain ⟨x, hx⟩ : ∃ x, x = l[0] := ⟨_, rfl⟩
    rw [← hx] at hc0 hh
    clear hx
    rw [Nat.add_zero] at hc0
    have hd : decide ((l.length : Int) > 0) = true := by simp; omega
    have hne : l ≠ [] := ne_of_lt h0
    by_cases h90 : x = 90
    · subst h90
      have h9' : l.length < 9 := by
        rcases h9 with h | h
        · exact absurd hh h
        · exact h
      rw [paySize_no (show headE l = 2 by unfold headE; rw [if_neg (by rw [hh]; simp), if_pos h9']) (by omega)]
      clear h9 hne hh
      have hc1 : w.cell? ⟨b, o, none⟩ = some (.int .u8 90) := hc0
      clear hc0
      go_enter Tryz.func122, Tryz.ntmps122
      go_wp2
      go_ret2
      exact ⟨rfl, Below.refl _ _⟩
    · rw [paySize_no (show headE l = 3 by unfold headE; rw [if_pos ⟨hne, by rw [hh]; simpa using h90⟩]) (by omega)]
      have hxb : ((x.toNat : Int) == 90) = false := by
        cases h : ((x.toNat : Int) == 90) with
        | false => rfl
        | true => exact absurd (UInt8.toNat_inj.1 (show x.toNat = (90 : UInt8).toNat by have := eq_of_beq h; show x.toNat = 90; omega)) h90
      clear h9 hne hh h90
      go_enter Tryz.func122, Tryz.ntmps122
      go_wp2
      go_ret2
      exact ⟨rfl, Below.refl _ _⟩
  · obtain rfl : l = [] := List.eq_nil_of_length_eq_zero (by omega)
    rw [paySize_no headE_nil (by omega)]
    clear h9 h0
    go_enter Tryz.func122, Tryz.ntmps122
    go_wp2
    go_ret2
    exact ⟨rfl, Below.refl _ _⟩

set_option maxHeartbeats 1000000 in
set_option maxRecDepth 100000 in
theorem pay_long (A : Option Addr) (l : List UInt8) (c : Nat) (w : World) (hb : Byt w w.heap.size A l) (hc : l.length ≤ c) (hl : l.length ≤ 1099511627776) (hh : l.head? = some 90) (h9 : 9 ≤ l.length) :
    Calls Tryz.prog 122 #[.slice A l.length c] w fun e w' => e = paySize l ∧ Below w.heap.size w w' := by
  obtain ⟨b, o, rfl, hbl, hc0⟩ := hb.get (show 0 < l.length by omega)
  have hh' := head_at (show 0 < l.length by omega)
  rw [hh] at hh'
  rw [← Option.some.inj hh'] at hc0
  rw [Nat.add_zero] at hc0
  have hc1 : w.cell? ⟨b, o, none⟩ = some (.int .u8 90) := hc0
  clear hc0 hh'
  have hs : ∀ w, (Instr.slice 31 (.slice (some ⟨b, o, none⟩) l.length c) (some (.int .i64 1)) (some (.int .i64 5)) none).run Tryz.prog w = .ok (.slice (some ⟨b, o + 1, none⟩) 4 (c - 1)) w := fun w =>
    run_cut_pq w b o l.length c 1 5 (by omega) (by omega) (by omega)
  have hm : ((l.drop 1).take 4).length = 4 := by rw [List.length_take, List.length_drop]; omega
  have hb1 : Byt w w.heap.size (some ⟨b, o + 1, none⟩) ((l.drop 1).take 4) := by
    have h := (hb.drop (n := 1) (show l.length ≤ l.length by omega)).take 4
    rw [if_neg (by omega)] at h
    exact h
  have hlt : lenB l < 4294967296 := valB_lt4 hm
  have HS := Lib.hid ((wordAt_any (some ⟨b, o, none⟩) l c 5 w.drew hb.drew (by omega) hc hl).mono fun e w' ⟨h3, h4⟩ => (⟨h3, h4.symm⟩ : e = Ending.returned (.int .u32 ((valB ((l.drop 5).take 4) : Nat) : Int)) ∧ w' = w.drew))
  have hf := sumFits_any (some ⟨b, o + 1, none⟩) ((l.drop 1).take 4) (c - 1) (valB ((l.drop 5).take 4)) w.drew hb1.drew (by omega)
  rw [hm] at hf
  have HF := Lib.hid hf
  have HL : Hid (∀ W, Below w.heap.size w W → Calls Tryz.prog 124 #[.slice (some ⟨b, o, none⟩) l.length c, .int .i64 1] W fun e w' => e = .returned (.int .u32 (lenB l : Nat)) ∧ W = w') := fun W h =>
    wordAt_any (some ⟨b, o, none⟩) l c 1 W ((hb.below h).more h.size) (by omega) hc hl
  clear hf hb hb1 hm
  cases hf : fitB ((l.drop 1).take 4) (valB ((l.drop 5).take 4)) with
  | false =>
    rw [hf] at HF
    have hne : crc ((l.drop 1).take 4) ≠ valB ((l.drop 5).take 4) := by simpa [fitB] using hf
    rw [paySize_no (show headE l = 5 by unfold headE; rw [if_neg (by rw [hh]; simp), if_neg (by omega), if_pos hne]) (by omega)]
    clear hf hne hh
    go_enter Tryz.func122, Tryz.ntmps122
    go_wp2
    refine wp_region_still_tail 4 (by kernel_rfl) (by kernel_rfl) ?_
    simp only [List.take_succ_cons, List.take_zero, List.drop_succ_cons, List.drop_zero]
    change wpStill _ _ w.drew _ _ _
    iterate 3 still_step
    still_call HS.out
    refine wpStill_nil ?_
    go_wp2_with (go_at_call 123; refine HF.out.mono ?_; rintro e W2 ⟨rfl, b2⟩)
    go_ret2
    exact ⟨rfl, below_drew b2⟩
  | true =>
    rw [hf] at HF
    have heq : crc ((l.drop 1).take 4) = valB ((l.drop 5).take 4) := by simpa [fitB] using hf
    by_cases hbig : 65536 < lenB l
    · rw [paySize_no (show headE l = 4 by unfold headE; rw [if_neg (by rw [hh]; simp), if_neg (by omega), if_neg (by simpa using heq), if_pos hbig]) (by omega)]
      clear hf heq hh
      go_enter Tryz.func122, Tryz.ntmps122
      go_wp2
      refine wp_region_still_tail 4 (by kernel_rfl) (by kernel_rfl) ?_
      simp only [List.take_succ_cons, List.take_zero, List.drop_succ_cons, List.drop_zero]
      change wpStill _ _ w.drew _ _ _
      iterate 3 still_step
      still_call HS.out
      refine wpStill_nil ?_
      go_wp2_with (first
        | (go_at_call 123; refine HF.out.mono ?_; rintro e W2 ⟨rfl, b2⟩)
        | (go_at_call 124; (with_reducible refine (HL.out _ (below_drew b2)).mono ?_); rintro e W3 ⟨rfl, rfl⟩))
      go_ret2
      exact ⟨rfl, below_drew b2⟩
    · have hz : headE l = 0 := by unfold headE; rw [if_neg (by rw [hh]; simp), if_neg (by omega), if_neg (by simpa using heq), if_neg hbig]
      have e : paySize l = .returned (.tuple #[.int .i64 (lenB l : Int), .int .i64 0]) := by unfold paySize; rw [hz, if_pos rfl]; rfl
      rw [e]
      clear hf heq hh hz e
      go_enter Tryz.func122, Tryz.ntmps122
      go_wp2
      refine wp_region_still_tail 4 (by kernel_rfl) (by kernel_rfl) ?_
      simp only [List.take_succ_cons, List.take_zero, List.drop_succ_cons, List.drop_zero]
      change wpStill _ _ w.drew _ _ _
      iterate 3 still_step
      still_call HS.out
      refine wpStill_nil ?_
      go_wp2_with (first
        | (go_at_call 123; refine HF.out.mono ?_; rintro e W2 ⟨rfl, b2⟩)
        | (go_at_call 124; (with_reducible refine (HL.out _ (below_drew b2)).mono ?_); rintro e W3 ⟨rfl, rfl⟩))
      go_ret2
      exact ⟨rfl, below_drew b2⟩

theorem pay_any (A : Option Addr) (l : List UInt8) (c : Nat) (w : World) (hb : Byt w w.heap.size A l) (hc : l.length ≤ c) (hl : l.length ≤ 1099511627776) :
    Calls Tryz.prog 122 #[.slice A l.length c] w fun e w' => e = paySize l ∧ Below w.heap.size w w' := by
  by_cases h : l.head? ≠ some 90 ∨ l.length < 9
  · exact pay_head A l c w hb hl h
  · exact pay_long A l c w hb hc hl (Classical.not_not.1 fun h1 => h (.inl h1)) (Nat.le_of_not_lt fun h1 => h (.inr h1))
end Go.Proofs.YtohnhboeipckjaaGreatDoor
