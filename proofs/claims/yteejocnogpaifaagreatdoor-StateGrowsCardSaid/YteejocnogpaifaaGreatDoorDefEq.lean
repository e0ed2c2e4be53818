/-
  Steps compared by == and !=, as the model does it, field by field.
  Conditions: none.
-/
import Derived.Test.YteejocnogpaifaaGreatDoorDefMem
namespace Go.Proofs.YteejocnogpaifaaGreatDoor.Df
open Go.RowKit
open Go.Proofs.YteejocnogpaifaaGreatDoor.Bo (P)

set_option maxRecDepth 100000 in
set_option maxHeartbeats 1000000 in
theorem eq_plan (d : Nat) (x y : P) (w : World) : (Op.equalIn (d + 2) 52 (.agg #[.int .i64 x.r, .int .i64 x.b, .int .i64 x.f, .int .i64 x.c]) (.agg #[.int .i64 y.r, .int .i64 y.b, .int .i64 y.f, .int .i64 y.c])).run Tryz.prog w = .ok (eqP x y) w := by
  rw [run_equalIn_struct w (d + 1) 52 _ _ (by kernel_rfl) (by kernel_rfl)]
  simp [Program.fieldsOf, Tryz.underlying52, Op.eqFields, go_sem]
  unfold eqP
  repeat' split
  all_goals simp_all
set_option maxRecDepth 100000 in
set_option maxHeartbeats 4000000 in
theorem neq_step (x y : Stp) (w : World) : (binOp .neq 54 (.agg x.arr) (.agg y.arr)).run Tryz.prog w = .ok (.bool (!eqS x y)) w := by
  rw [run_neq_struct, run_equalIn_struct w 9999 54 _ _ (by kernel_rfl) (by kernel_rfl)]
  unfold Stp.arr
  simp [Program.fieldsOf, Tryz.underlying54, Op.eqFields, go_sem, eq_plan]
  have hb : ∀ a b : ByteArray, (a.toList = b.toList) = (a = b) := fun a b => propext (by
    have := bytes_beq a b
    rw [Bool.eq_iff_iff, beq_iff_eq, decide_eq_true_eq] at this
    exact this)
  simp only [hb]
  unfold eqS
  repeat' split
  all_goals simp_all
theorem guard_step (op : BinOp) (a b : Operand) (xs ys : Array Value) (w : World) : (eqGuard op 54 a b (.agg xs) (.agg ys)).run Tryz.prog w = .ok () w := run_eqGuard_agg w op 54 a b xs ys (by kernel_rfl)
instance : DecidableEq Stp := fun _ _ => decidable_of_iff _ eqS_iff
theorem eqS_dec (a b : Stp) : eqS a b = decide (a = b) := by rw [Bool.eq_iff_iff, eqS_iff, decide_eq_true_eq]
end Go.Proofs.YteejocnogpaifaaGreatDoor.Df
