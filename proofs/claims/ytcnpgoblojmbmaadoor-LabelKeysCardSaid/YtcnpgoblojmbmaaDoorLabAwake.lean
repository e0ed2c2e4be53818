/-
  The document's examples of layer 2, as the statements ask them first: the program answers as they say.
  Conditions: the library's variable that Cut's search reads holds some number.
-/
import Derived.Test.YtcnpgoblojmbmaaDoorLabKey
import Derived.Test.YtcnpgoblojmbmaaDoorLabMask
namespace Go.Proofs.YtcnpgoblojmbmaaDoor
open Go.RowKit

def payS : ByteArray := ⟨#[112, 97, 121]⟩
def cardS : ByteArray := ⟨#[99, 97, 114, 100]⟩
theorem aw_cut : rowB (texts (pcs ⟨#[112, 97, 121, 47, 50]⟩)) = false := by decide +kernel
theorem aw_row : rowB (texts [payS, cardS]) = true := by decide +kernel
theorem aw_key : keyT (texts [payS, cardS]) = [112, 97, 121, 47, 99, 97, 114, 100] := by decide +kernel
theorem aw_mask : mask [97, 32, 98] = [97, 95, 98] := by decide +kernel
theorem aw_good : nameB [195, 169, 49] = true := by decide +kernel
theorem aw_len : (Lib.join (texts [payS, cardS]) [47]).length = 8 := by decide +kernel

theorem lies2 (w : World) (a b : ByteArray) (t : Nat) : LiesAt (w.alloc (.cells #[.string a, .string b] t)) w.heap.size 0 [a, b] := by
  refine ⟨by simp, fun j x hx => ?_⟩
  have hh := heap_alloc_new w (.cells #[.string a, .string b] t)
  rw [cell_of_row _ w.heap.size (0 + j) _ t (0, 0) hh]
  match j, hx with
  | 0, hx => simp at hx; subst hx; rfl
  | 1, hx => simp at hx; subst hx; rfl
theorem aw_keyc (w : World) : Calls Tryd.prog 14 #[.slice (some ⟨w.heap.size, 0, none⟩) 2 2] (w.alloc (.cells #[.string ⟨#[112, 97, 121]⟩, .string ⟨#[99, 97, 114, 100]⟩] 9)) fun e w' =>
    e = .returned (.tuple #[.string ⟨#[112, 97, 121, 47, 99, 97, 114, 100]⟩, .bool true]) ∧ Below w.heap.size w w' := by
  have h := key_any [payS, cardS] 2 w.heap.size 0 2 (w.alloc (.cells #[.string payS, .string cardS] 9)) rfl (by omega) (by omega) (lies2 _ _ _ _) (by intro x hx; simp at hx; rcases hx with rfl | rfl <;> decide) (by rw [aw_len]; omega)
  rw [aw_key, aw_row] at h
  refine Calls.mono h ?_
  rintro e w' ⟨rfl, b⟩
  exact ⟨rfl, ((Below.refl _ w).alloc (Nat.le_refl _) _).trans (b.mono (by simp))⟩
theorem aw_maskc (w : World) : Calls Tryd.prog 12 #[.string ⟨#[97, 32, 98]⟩] w fun e w' => e = .returned (.string ⟨#[97, 95, 98]⟩) ∧ Below w.heap.size w w' := by
  have h := mask_any ⟨#[97, 32, 98]⟩ w (by decide)
  rw [show mask (ByteArray.mk #[97, 32, 98]).data.toList = [97, 95, 98] from aw_mask] at h
  exact h
theorem aw_goodc (w : World) : Calls Tryd.prog 8 #[.string ⟨#[195, 169, 49]⟩] w fun e w' => e = .returned (.bool true) ∧ Below w.heap.size w w' := by
  have h := good_any ⟨#[195, 169, 49]⟩ w (by decide)
  rw [show nameB (ByteArray.mk #[195, 169, 49]).data.toList = true from aw_good] at h
  exact h

set_option maxHeartbeats 4000000 in
set_option maxRecDepth 1000000 in
theorem awake_any (m : Int) (w : World) (hm : w.cell? ⟨0, 0, none⟩ = some (.int .i64 m)) :
    Calls Tryd.prog 7 #[] w fun e w' => e = .returned (.bool true) ∧ Below w.heap.size w w' := by
  have C1 := Lib.hid (cut_no ⟨#[112, 97, 121, 47, 50]⟩ m w (by decide) hm aw_cut)
  clear hm
  go_enter Tryd.func7, Tryd.ntmps7
  go_wp2_with (first
    | (go_at_call 16; (refine (C1.out).mono ?_); rintro e W1 ⟨rfl, b1⟩)
    | (go_at_call 14; (refine (aw_keyc W1).mono ?_); rintro e W2 ⟨rfl, b2⟩)
    | (go_at_call 12; (refine (aw_maskc _).mono ?_); rintro e W3 ⟨rfl, b3⟩)
    | (go_at_call 8; (refine (aw_goodc _).mono ?_); rintro e W4 ⟨rfl, b4⟩))
  go_ret
  have b12 := b1.trans (b2.mono b1.size)
  have b13 := b12.trans (b3.mono b12.size)
  exact ⟨rfl, b13.trans (b4.mono b13.size)⟩
end Go.Proofs.YtcnpgoblojmbmaaDoor
