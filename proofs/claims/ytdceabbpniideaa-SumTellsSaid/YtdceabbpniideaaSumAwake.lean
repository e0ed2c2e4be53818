/-
  What the statements' awake answers: true.
  Conditions: none.
-/
import Derived.Test.YtdceabbpniideaaSumSealed
import Derived.Lib.SlBytesConst
namespace Go.Proofs.Ytdceabbpniideaa
open Go.RowKit

theorem Byt.lit (w : World) (t : TypeId) (fr : Nat × Nat) (l : List UInt8) : Byt (w.alloc (.cells (cellsB l).toArray t fr)) (w.heap.size + 1) (some ⟨w.heap.size, 0, Option.none⟩) l := fun _ => by
  refine ⟨w.heap.size, 0, rfl, by omega, fun k hk => ?_⟩
  rw [Nat.zero_add, cell_of_row _ _ _ _ _ _ (heap_alloc_new w _), List.getElem?_toArray, cellsB_at l k hk]
theorem nine_any (w : World) :
    Calls Try.prog 10 #[.slice (some ⟨w.heap.size, 0, none⟩) 9 9] (w.alloc (.cells #[.int .u8 49, .int .u8 50, .int .u8 51, .int .u8 52, .int .u8 53, .int .u8 54, .int .u8 55, .int .u8 56, .int .u8 57] 5 (9, 10)))
      fun e w' => e = .returned (.int .u32 3421780262) ∧ Below w.heap.size w w' := by
  have hb : Byt (w.alloc (.cells #[.int .u8 49, .int .u8 50, .int .u8 51, .int .u8 52, .int .u8 53, .int .u8 54, .int .u8 55, .int .u8 56, .int .u8 57] 5 (9, 10))) (w.heap.size + 1) (some ⟨w.heap.size, 0, none⟩) [49, 50, 51, 52, 53, 54, 55, 56, 57] :=
    Byt.lit w 5 (9, 10) [49, 50, 51, 52, 53, 54, 55, 56, 57]
  refine (of_any (some ⟨w.heap.size, 0, none⟩) [49, 50, 51, 52, 53, 54, 55, 56, 57] 9 _ (by simpa using hb) (by simp)).mono fun e w' ⟨he, h⟩ => ⟨?_, ?_⟩
  · rw [he, crc_nine]; rfl
  · exact ((Below.refl _ w).alloc (Nat.le_refl _) _).trans (h.mono (by simp))
theorem none_any (w : World) : Calls Try.prog 10 #[.slice none 0 0] w fun e w' => e = .returned (.int .u32 0) ∧ Below w.heap.size w w' := by
  refine (of_any none [] 0 w (Byt.none _ _ _) (by simp)).mono fun e w' ⟨he, h⟩ => ⟨?_, h⟩
  rw [he, crc_none]; rfl

set_option maxHeartbeats 1000000 in
theorem awake_any (w : World) : Calls Try.prog 7 #[] w fun e w' => e = .returned (.bool true) ∧ Below w.heap.size w w' := by
  have kc := Lib.run_convert_bytes_const (P := Try.prog) w 22 5 #[.int .u8 49, .int .u8 50, .int .u8 51, .int .u8 52, .int .u8 53, .int .u8 54, .int .u8 55, .int .u8 56, .int .u8 57] 9 9 Try.underlying22 Try.underlying5
  go_enter Try.func7, Try.ntmps7
  go_wp2_with (first
    | (go_at_call 10; (with_reducible refine (nine_any w).mono ?_); rintro e W1 ⟨rfl, b1⟩)
    | (go_at_call 10; (with_reducible refine (none_any _).mono ?_); rintro e W2 ⟨rfl, b2⟩))
  go_ret
  exact ⟨rfl, b1.trans (b2.mono b1.size)⟩
end Go.Proofs.Ytdceabbpniideaa
