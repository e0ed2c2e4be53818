/-
  What accepted of package saga answers.
  Conditions: none.
-/
import Derived.Test.YteejocnogpaifaaGreatDoorSagPure
namespace Go.Proofs.YteejocnogpaifaaGreatDoor.Sa
open Go.RowKit Go.Sort
open Go.Proofs.YteejocnogpaifaaGreatDoor.Bo (P Made ret_int ret_bool)
open Go.Proofs.YteejocnogpaifaaGreatDoor.Df

set_option maxHeartbeats 1000000 in
theorem accepted_any (s : Sg) (r : Rp) (w : World) : Calls Tryz.prog 107 #[.agg #[.int .i64 s.id, .string s.dn, .int .i64 s.st, .int .i64 s.ph, .int .i64 s.sp, .int .i64 s.tr, .bool s.out, .int .i64 s.at_, .int .i64 s.sk], .agg #[.int .i64 r.sg, .int .i64 r.sp, .bool r.un, .int .i64 r.tr, .bool r.good]] w fun e w' => e = .returned (.bool (accB s r)) ∧ Made w w' := by
  unfold accB
  cases r.un <;> cases r.good <;> cases s.out
  all_goals
    go_enter Tryz.func107, Tryz.ntmps107
    go_wp2
    all_goals
      go_ret
      refine ⟨ret_bool ?_, (Made.alloc _ _).trans (Made.alloc _ _)⟩
      first
        | rfl
        | (rw [Bool.eq_iff_iff]; first | done | (simp_all; done) | (simp_all; omega))
end Go.Proofs.YteejocnogpaifaaGreatDoor.Sa
