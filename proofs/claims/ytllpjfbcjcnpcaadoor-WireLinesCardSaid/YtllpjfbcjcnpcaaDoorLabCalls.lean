/-
  What the program's functions of package label on single runes answer: met, letter and fits.
  Conditions: the rune is one that a range over the text met.
-/
import Derived.Test.YtllpjfbcjcnpcaaDoorShelf
import Derived.Test.YtllpjfbcjcnpcaaDoorLabMath
import Derived.WalkKit
import Derived.LoopTactic
import Derived.BigCall
import Derived.Lib.Hide
namespace Go.Proofs.YtllpjfbcjcnpcaaDoor
open Go.RowKit

theorem ret_bool {a b : Bool} (h : a = b) : Ending.returned (.bool a) = .returned (.bool b) := by rw [h]
theorem ret_i32 {a b : Int} (h : a = b) : Ending.returned (.int .i32 a) = .returned (.int .i32 b) := by rw [h]

set_option maxHeartbeats 1000000 in
theorem letter_any (r : Int) (w : World) : Calls Tryd.prog 32 #[.int .i32 r] w fun e w' => e = .returned (.bool (lettI r)) ∧ w = w' := by
  go_enter Tryd.func32, Tryd.ntmps32
  go_wp2
  all_goals
    go_ret
    refine ⟨ret_bool ?_, rfl⟩
    unfold lettI
    rw [Bool.eq_iff_iff]
    simp [*] <;> omega

set_option maxHeartbeats 1000000 in
theorem fits_any (r : Int) (w : World) : Calls Tryd.prog 33 #[.int .i32 r] w fun e w' => e = .returned (.bool (fitI r)) ∧ w = w' := by
  go_enter Tryd.func33, Tryd.ntmps33
  go_wp2_with (first
    | (go_at_call 32; (with_reducible refine (letter_any _ _).mono ?_); rintro e w' ⟨rfl, rfl⟩))
  all_goals
    go_ret
    refine ⟨ret_bool ?_, rfl⟩
    unfold fitI
    rw [Bool.eq_iff_iff]
    simp [*] <;> omega

/-- 'met' at the rune that a range met at the head of a text -/
def rngI (l : List UInt8) : Int := if (dec l).2 = 0 then 65533 else (dec l).1
theorem rng_eq (s : ByteArray) (i : Nat) : ((Utf8.decode s i).1 : Int) = rngI (s.data.toList.drop i) := by
  rw [decode_eq]; unfold rngI; split <;> rfl
theorem rngI_lo (l : List UInt8) : 0 ≤ rngI l := by unfold rngI; split <;> omega
theorem rngI_hi (l : List UInt8) : rngI l ≤ 1114111 := by have := dec_bd l; unfold rngI; split <;> omega

set_option maxHeartbeats 1000000 in
theorem met_any (s : ByteArray) (w : World) : Calls Tryd.prog 31 #[.int .i32 (rngI s.data.toList), .string s] w fun e w' => e = .returned (.int .i32 (metI s.data.toList)) ∧ w = w' := by
  by_cases h0 : (dec s.data.toList).2 = 0
  · have e1 : rngI s.data.toList = 65533 := by unfold rngI; rw [if_pos h0]
    have e2 : metI s.data.toList = -1 := by unfold metI; rw [if_pos h0]
    have e3 := met_bad h0
    rw [e1, e2]
    clear h0 e1 e2
    go_enter Tryd.func31, Tryd.ntmps31
    go_wp2_with (go_at_call 44; (with_reducible refine (Tryd.strings_HasPrefix _ _ _).mono ?_); rintro e w' ⟨rfl, rfl⟩)
    go_ret
    exact ⟨rfl, rfl⟩
  · have e1 : rngI s.data.toList = metI s.data.toList := by unfold rngI metI; rw [if_neg h0, if_neg h0]
    rw [e1]
    by_cases h1 : metI s.data.toList = 65533
    · have e3 : Lib.hasPrefix s.data.toList [239, 191, 189] = true := met_good (by unfold metI at h1; rw [if_neg h0] at h1; omega)
      rw [h1]
      clear h0 e1 h1
      go_enter Tryd.func31, Tryd.ntmps31
      go_wp2_with (go_at_call 44; (with_reducible refine (Tryd.strings_HasPrefix _ _ _).mono ?_); rintro e w' ⟨rfl, rfl⟩)
      go_ret
      exact ⟨rfl, rfl⟩
    · have h2 : (metI s.data.toList == 65533) = false := by simpa using h1
      clear h0 e1 h1
      go_enter Tryd.func31, Tryd.ntmps31
      go_wp2_with (fail)
      go_ret
      exact ⟨rfl, rfl⟩

theorem extract_drop (s : ByteArray) (pos : Nat) : (s.extract pos s.size).data.toList = s.data.toList.drop pos := by
  rw [ByteArray.data_extract]
  simp only [Array.toList_extract, List.extract]
  exact List.take_of_length_le (by rw [List.length_drop, Array.length_toList]; exact Nat.le_refl _)
theorem met_at (s : ByteArray) (pos : Nat) (w : World) : Calls Tryd.prog 31 #[.int .i32 ((Utf8.decode s pos).1 : Int), .string (s.extract pos s.size)] w fun e w' => e = .returned (.int .i32 (metI (s.data.toList.drop pos))) ∧ w = w' := by
  have h := met_any (s.extract pos s.size) w
  rw [extract_drop, ← rng_eq] at h
  exact h
theorem mask_size (s : ByteArray) : (mask s.data.toList).length ≤ s.size := by
  have h := mask_len s.data.toList
  have e : s.data.toList.length = s.size := Array.length_toList
  omega
theorem runes_size (s : ByteArray) : runes s.data.toList ≤ s.size := by
  have h := runes_le s.data.toList
  have e : s.data.toList.length = s.size := Array.length_toList
  omega
theorem drop_ne {s : ByteArray} {pos : Nat} (h : pos < s.size) : s.data.toList.drop pos ≠ [] := fun e => by
  have := congrArg List.length e
  rw [List.length_drop, Array.length_toList] at this
  have h' : pos < s.data.size := h
  simp at this
  omega
/-- what a rune that may stand in a name is written as -/
theorem enc_hd {s : ByteArray} {pos : Nat} (h : pos < s.size) (hg : fitI (metI (s.data.toList.drop pos)) = true) : Lib.encodeRune ((Utf8.decode s pos).1 : Int) = hd (s.data.toList.drop pos) := by
  have hv := gd_valid (l := s.data.toList.drop pos) hg
  have e : ((Utf8.decode s pos).1 : Int) = ((dec (s.data.toList.drop pos)).1 : Int) := by rw [decode_eq, if_neg hv]
  rw [e, enc_dec (drop_ne h) hv]
  have hg' : gd (s.data.toList.drop pos) = true := hg
  unfold hd
  rw [if_pos hg', gd_wd hg']
theorem hd_95 {l : List UInt8} (hg : fitI (metI l) = false) : hd l = [95] := by
  have hg' : gd l = false := hg
  unfold hd
  rw [hg']; rfl
theorem wd_size {s : ByteArray} {pos : Nat} (h : pos < s.size) : pos + wd (s.data.toList.drop pos) ≤ s.size := by
  have := wd_le _ (drop_ne h)
  rw [List.length_drop, Array.length_toList] at this
  have h' : pos < s.data.size := h
  show _ ≤ s.data.size
  omega

end Go.Proofs.YtllpjfbcjcnpcaaDoor
