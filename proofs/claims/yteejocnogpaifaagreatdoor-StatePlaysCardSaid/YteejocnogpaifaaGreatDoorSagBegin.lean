/-
  What Begin of package saga answers.
  Conditions: none.
-/
import Derived.Test.YteejocnogpaifaaGreatDoorSagUn
import Derived.Test.YteejocnogpaifaaGreatDoorSagEmit
namespace Go.Proofs.YteejocnogpaifaaGreatDoor.Sa
open Go.RowKit Go.Sort
open Go.Proofs.YteejocnogpaifaaGreatDoor.El
open Go.Proofs.YteejocnogpaifaaGreatDoor.Bo (P Made ret_int ret_bool left wait)
open Go.Proofs.YteejocnogpaifaaGreatDoor.Df

set_option maxHeartbeats 1000000 in
theorem begin_any (nm : ByteArray) (dl : Int) (A : Option Addr) (n c : Nat) (id now : Int) (w : World) : Calls Tryz.prog 44 #[.agg #[.string nm, .int .i64 dl, .slice A n c], .int .i64 id, .int .i64 now] w fun e w' => e = .returned (.agg (beginS nm id now).arr) ∧ Made w w' := by
  go_enter Tryz.func44, Tryz.ntmps44
  go_wp2_with (go_at_call 77; refine (Bo.tof_any _ _).mono ?_; rintro e w' ⟨rfl, rfl⟩)
  refine bodyPost_ret (res_sg rfl _ _ (w.heap.size + 1) (beginS nm id now) rfl ?_) rfl ⟨rfl, ?_⟩
  · exact box_new2 w _ _ _
  · exact (Made.alloc _ _).trans (Made.alloc _ _)
end Go.Proofs.YteejocnogpaifaaGreatDoor.Sa
