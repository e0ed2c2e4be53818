/-
  The document's own Good of a plan: it answers as the program's.
  Conditions: none.
-/
import Derived.Test.YteejocnogpaifaaGreatDoorBofGood
namespace Go.Proofs.YteejocnogpaifaaGreatDoor.Bo
open Go.RowKit Go.Sort

set_option maxHeartbeats 800000 in
theorem rgood_any (p : P) (w : World) :
    Calls Tryz.prog 86 #[p.val] w fun e w' => e = .returned (.bool p.goodB) ∧ Made w w' := by
  obtain ⟨r, b, f, c⟩ := p
  show Calls Tryz.prog 86 #[.agg #[.int .i64 r, .int .i64 b, .int .i64 f, .int .i64 c]] w fun e w' => e = .returned (.bool (P.goodB ⟨r, b, f, c⟩)) ∧ Made w w'
  go_enter Tryz.func86, Tryz.ntmps86
  go_wp2
  all_goals
    go_ret
    refine ⟨ret_bool ?_, Made.alloc _ _⟩
    rw [Bool.eq_iff_iff]
    simp only [goodB_iff, decide_eq_true_eq, Bool.false_eq_true, false_iff]
    omega
theorem rgood_is (p : P) {v : Bool} (h : p.goodB = v) (w : World) : Calls Tryz.prog 86 #[.agg #[.int .i64 p.r, .int .i64 p.b, .int .i64 p.f, .int .i64 p.c]] w fun e w' => e = .returned (.bool v) ∧ Made w w' := h ▸ rgood_any p w
end Go.Proofs.YteejocnogpaifaaGreatDoor.Bo
