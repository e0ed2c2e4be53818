/-
  The law function WheelPlays where it does not play: of more than 40 acts, and of a tick or a capacity that no wheel has. Its argument, opened.
  Conditions: as each theorem names them.
-/
import Derived.Test.YtobodianbjfgfaaWhlTk
import Derived.Test.YtobodianbjfgfaaWhlRef3
import Derived.WalkKit
namespace Go.Proofs.Ytobodianbjfgfaa.Wh
open Go.ChangeShapes Go.WideShapes Go.ChangeAt Go.RowKit

theorem drewN_below (w : World) (n : Nat) : Below w.heap.size w (w.drewN n) := ⟨rfl, rfl, rfl, Nat.le_refl _, fun _ _ => rfl⟩
theorem arg_acts {H : Type} {enc : TypeId × Value → H} {W : World} {a0 : Option Addr} {len cap : Nat} {d0 : DataW H} {p : List MemPlace}
    (h0 : DataW.Trod enc Try.prog W 0 (fun _ => true) true 22 (.slice a0 len cap) d0 p) :
    ∃ f : Nat → Nat → Int, len ≤ cap ∧ len ≤ 9223372036854775807 ∧ ∀ i, i < len → IntsAt W W.heap.size a0 3 i (f i) := by
  refine arg_ints 3 (by omega) Try.underlying22 (by kernel_rfl) (fun fuel cs x ht hl => ?_) h0
  obtain ⟨ys, n', _, _, _, hyl, hfld⟩ := DataW.trod_struct Try.underlying28 ht
  simp only [List.size_toArray, List.length_cons, List.length_nil, Nat.reduceAdd] at hyl
  have e0 : DataW.trod enc Try.prog W 0 (fun _ => true) true n' 3 ((cs.drop 0).take (Try.prog.cellsOf 3)) = ys[0]? := hfld 0 _ rfl
  have e1 : DataW.trod enc Try.prog W 0 (fun _ => true) true n' 3 ((cs.drop 1).take (Try.prog.cellsOf 3)) = ys[1]? := hfld 1 _ rfl
  have e2 : DataW.trod enc Try.prog W 0 (fun _ => true) true n' 3 ((cs.drop 2).take (Try.prog.cellsOf 3)) = ys[2]? := hfld 2 _ rfl
  match cs, hl, ys, hyl with
  | [c0, c1, c2], _, [y0, y1, y2], _ =>
    simp only [cellsI, List.drop_zero, List.drop_succ_cons, List.take_succ_cons, List.take_zero, List.getElem?_cons_zero, List.getElem?_cons_succ] at e0 e1 e2
    obtain ⟨x0, q0, _, w0⟩ := DataW.trod_int Try.underlying3 e0
    obtain ⟨x1, q1, _, w1⟩ := DataW.trod_int Try.underlying3 e1
    obtain ⟨x2, q2, _, w2⟩ := DataW.trod_int Try.underlying3 e2
    simp only [List.cons.injEq, and_true] at q0 q1 q2
    subst q0 q1 q2
    refine ⟨fun j => if j = 0 then x0 else if j = 1 then x1 else x2, fun j hj => ?_⟩
    have hj' : j = 0 ∨ j = 1 ∨ j = 2 := by omega
    rcases hj' with rfl | rfl | rfl
    · exact ⟨w0, rfl⟩
    · exact ⟨w1, rfl⟩
    · exact ⟨w2, rfl⟩
set_option maxHeartbeats 16000000 in
set_option maxRecDepth 100000 in
theorem walk_long (now cap : Int) (A0 : Option Addr) (n ca : Nat) (w : World) (h40 : 40 < n) :
    Calls Try.prog 3 #[.int .i64 now, .int .i64 cap, .slice A0 n ca] w fun e w' => e = .returned (.bool true) ∧ Below w.heap.size w w' := by
  go_enter Try.func3, Try.ntmps3
  go_wp2_with (go_at_call 6; (with_reducible refine (awake_any _).mono ?_); rintro e w0 ⟨rfl, hb0⟩)
  go_ret
  exact ⟨rfl, hb0⟩
set_option maxHeartbeats 16000000 in
set_option maxRecDepth 100000 in
theorem walk_nil (now cap : Int) (A0 : Option Addr) (n ca : Nat) (w : World) (h40 : ¬ 40 < n) (hcr : now < 0 ∨ 1099511627776 < now ∨ cap < 1 ∨ 65536 < cap) :
    Calls Try.prog 3 #[.int .i64 now, .int .i64 cap, .slice A0 n ca] w fun e w' => e = .returned (.bool true) ∧ Below w.heap.size w w' := by
  have HNo := Lib.hid fun w => new_no now cap w (by
    rcases hcr with h | h | h | h
    · exact .inl (decide_eq_false (by omega))
    · exact .inl (decide_eq_false (by omega))
    · exact .inr (.inl h)
    · exact .inr (.inr h))
  by_cases h1 : now < 0
  · clear hcr
    go_enter Try.func3, Try.ntmps3
    go_wp2_with (first
      | (go_at_call 6; (with_reducible refine (awake_any _).mono ?_); rintro e w0 ⟨rfl, hb0⟩)
      | (go_at_call 7; (with_reducible refine (HNo.out _).mono ?_); rintro e w1 ⟨rfl, rfl⟩))
    go_ret
    exact ⟨rfl, hb0⟩
  · by_cases h2 : 1099511627776 < now
    · clear hcr
      go_enter Try.func3, Try.ntmps3
      go_wp2_with (first
        | (go_at_call 6; (with_reducible refine (awake_any _).mono ?_); rintro e w0 ⟨rfl, hb0⟩)
        | (go_at_call 7; (with_reducible refine (HNo.out _).mono ?_); rintro e w1 ⟨rfl, rfl⟩))
      go_ret
      exact ⟨rfl, hb0⟩
    · by_cases h3 : cap < 1
      · clear hcr
        go_enter Try.func3, Try.ntmps3
        go_wp2_with (first
          | (go_at_call 6; (with_reducible refine (awake_any _).mono ?_); rintro e w0 ⟨rfl, hb0⟩)
          | (go_at_call 7; (with_reducible refine (HNo.out _).mono ?_); rintro e w1 ⟨rfl, rfl⟩))
        go_ret
        exact ⟨rfl, hb0⟩
      · have h4 : 65536 < cap := by omega
        clear hcr
        go_enter Try.func3, Try.ntmps3
        go_wp2_with (first
          | (go_at_call 6; (with_reducible refine (awake_any _).mono ?_); rintro e w0 ⟨rfl, hb0⟩)
          | (go_at_call 7; (with_reducible refine (HNo.out _).mono ?_); rintro e w1 ⟨rfl, rfl⟩))
        go_ret
        exact ⟨rfl, hb0⟩
end Go.Proofs.Ytobodianbjfgfaa.Wh
