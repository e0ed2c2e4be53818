/-
  The statements' own awake: it answers true.
  Conditions: none.
-/
import Derived.Test.YtihkadbcjeohjaaCodPuts
import Derived.Test.YtihkadbcjeohjaaCodEq
namespace Go.Proofs.Ytihkadbcjeohjaa.Co
open Go.RowKit
open Go.Proofs.Ytihkadbcjeohjaa.El
open Go.Proofs.Ytihkadbcjeohjaa.Df
open Go.Proofs.Ytihkadbcjeohjaa.Bo (P Made ret_int ret_bool)
open Go.Proofs.Ytihkadbcjeohjaa.Sa (Sg Rp)

def sg0 : Sg := ⟨0, ⟨#[]⟩, 0, 0, 0, 0, false, 0, 0⟩
theorem sg0_form : sagaF sg0 = List.replicate 65 0 := by decide +kernel
theorem sg0_put (w : World) : Calls Try.prog 15 #[.agg #[.int .i64 0, .string ⟨#[]⟩, .int .i64 0, .int .i64 0, .int .i64 0, .int .i64 0, .bool false, .int .i64 0, .int .i64 0]] w (OwnB w (List.replicate 65 0)) := by
  rw [← sg0_form]
  exact putSaga_any sg0 w (by decide)
set_option maxHeartbeats 1000000 in
set_option maxRecDepth 100000 in
theorem awake_any (w : World) : Calls Try.prog 7 #[] w fun e w' => e = .returned (.bool true) ∧ Below w.heap.size w w' := by
  have HP := Lib.hid (sg0_put w)
  go_enter Try.func7, Try.ntmps7
  go_wp2_with fail
  refine HP.out.mono ?_
  rintro e w1 ⟨A, c, rfl, hc, hy, hb⟩
  have HY := Lib.hid hy
  have HB := Lib.hid hb
  rw [List.length_replicate]
  clear hy hb hc HP
  go_wp2_with fail
  go_loopw [2] (fun vi wr => ∃ k : Nat, vi = .int .i64 (k : Int) ∧ k ≤ 65 ∧ wr = w1) (fun vi _ => 65 - (intOf vi).toNat)
  case atStart => exact ⟨0, rfl, Nat.zero_le _, rfl⟩
  case round =>
    obtain ⟨k, rfl, hk, rfl⟩ := hrel
    by_cases hkn : k < 65
    · obtain ⟨b, o, rfl, _, hcl⟩ := HY.out.get (k := k) (by rw [List.length_replicate]; exact hkn)
      rw [List.getElem_replicate] at hcl
      have hcl' : wr.cell? ⟨b, o + k, none⟩ = some (.int .u8 0) := hcl
      clear hcl
      go_wp2
      go_roundw
      case rel => exact ⟨k + 1, by go_num, by omega, trivial⟩
      case measure => simp only [intOf]; omega
    · have hk2 : k = 65 := by omega
      subst hk2
      go_wp2
      go_ret
      exact ⟨rfl, HB.out⟩
end Go.Proofs.Ytihkadbcjeohjaa.Co
