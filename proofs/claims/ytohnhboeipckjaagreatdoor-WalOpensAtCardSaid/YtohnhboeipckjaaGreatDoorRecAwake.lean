/-
  What the statements' awake answers: true.
  Conditions: none.
-/
import Derived.Test.YtohnhboeipckjaaGreatDoorRecPut
import Derived.Lib.SlBytesConst
namespace Go.Proofs.YtohnhboeipckjaaGreatDoor
open Go.RowKit

theorem Byt.lit (w : World) (t : TypeId) (fr : Nat × Nat) (l : List UInt8) : Byt (w.alloc (.cells (cellsB l).toArray t fr)) (w.heap.size + 1) (some ⟨w.heap.size, 0, Option.none⟩) l := fun _ => by
  refine ⟨w.heap.size, 0, rfl, by omega, fun k hk => ?_⟩
  rw [Nat.zero_add, cell_of_row _ _ _ _ _ _ (heap_alloc_new w _), List.getElem?_toArray, cellsB_at l k hk]
theorem get_none (w : World) : Calls Tryz.prog 110 #[.slice none 0 0, .int .i64 0] w fun e w' => (∃ v, e = .returned (.tuple #[v, .int .i64 0, .int .i64 2])) ∧ Below w.heap.size w w' := by
  refine (get_any none [] 0 0 w (Byt.none _ _ _) (by simp) (by simp) (by simp)).mono ?_
  rintro e w' ⟨v, he, _, hB⟩
  refine ⟨⟨v, ?_⟩, hB⟩
  rw [he, List.drop_nil, getE_nil, getN_no (by rw [getE_nil]; decide)]
  rfl
theorem put_one (w : World) (fr : Nat × Nat) : Calls Tryz.prog 31 #[.slice (some ⟨w.heap.size, 0, none⟩) 1 1] (w.alloc (.cells #[.int .u8 97] 5 fr)) fun e w' => (∃ A c, e = .returned (.tuple #[.slice A 14 c, .int .i64 0])) ∧ Below w.heap.size w w' := by
  have hb : Byt (w.alloc (.cells #[.int .u8 97] 5 fr)) (w.heap.size + 1) (some ⟨w.heap.size, 0, none⟩) [97] := Byt.lit w 5 fr [97]
  refine (put_any (some ⟨w.heap.size, 0, none⟩) [97] 1 _ (by simpa using hb) (by simp)).mono ?_
  rintro e w' ⟨v, rfl, ho, hB⟩
  obtain ⟨A, c, rfl, _⟩ := own_form ho
  exact ⟨⟨A, c, rfl⟩, ((Below.refl _ w).alloc (Nat.le_refl _) _).trans (hB.mono (by simp))⟩

end Go.Proofs.YtohnhboeipckjaaGreatDoor
