/-
  The document's own Good of a plan: it answers as the program's. The statements' own awake: it answers true.
  Conditions: none.
-/
import Derived.Test.YtjkjondfechogaaBofCalls
namespace Go.Proofs.Ytjkjondfechogaa.Bo
open Go.RowKit Go.Sort

set_option maxHeartbeats 800000 in
theorem rgood_any (p : P) (w : World) :
    Calls Try.prog 6 #[p.val] w fun e w' => e = .returned (.bool p.goodB) ∧ Made w w' := by
  obtain ⟨r, b, f, c⟩ := p
  show Calls Try.prog 6 #[.agg #[.int .i64 r, .int .i64 b, .int .i64 f, .int .i64 c]] w fun e w' => e = .returned (.bool (P.goodB ⟨r, b, f, c⟩)) ∧ Made w w'
  go_enter Try.func6, Try.ntmps6
  go_wp2
  all_goals
    go_ret
    refine ⟨ret_bool ?_, Made.alloc _ _⟩
    rw [Bool.eq_iff_iff]
    simp only [goodB_iff, decide_eq_true_eq, Bool.false_eq_true, false_iff]
    omega
theorem rgood_is (p : P) {v : Bool} (h : p.goodB = v) (w : World) : Calls Try.prog 6 #[.agg #[.int .i64 p.r, .int .i64 p.b, .int .i64 p.f, .int .i64 p.c]] w fun e w' => e = .returned (.bool v) ∧ Made w w' := h ▸ rgood_any p w
/-- the example's plan -/
def ex : P := ⟨3, 2, 3, 10⟩
theorem ex_good : ex.Good := by decide
theorem ex_w0 : wait ex 0 = 2 := rfl
theorem ex_w1 : wait ex 1 = 6 := by decide +kernel
theorem ex_w2 : wait ex 2 = 10 := by decide +kernel
theorem ex_t4 : total ex 4 = 28 := by decide +kernel
theorem ex_l1 : left ex 1 = 3 := by decide +kernel
theorem own_ex {w w' : World} (h : Made (w.alloc (.cells #[.int .i64 3, .int .i64 2, .int .i64 3, .int .i64 10] 23)) w') : w'.cell? ⟨w.heap.size, 0, none⟩ = some (.int .i64 3) ∧ w'.cell? ⟨w.heap.size, 1, none⟩ = some (.int .i64 2) ∧ w'.cell? ⟨w.heap.size, 2, none⟩ = some (.int .i64 3) ∧ w'.cell? ⟨w.heap.size, 3, none⟩ = some (.int .i64 10) :=
  have hb : Box w' w.heap.size 23 ex.cells := Box.made (Box.new w _ _) h
  ⟨Pc0 hb, Pc1 hb, Pc2 hb, Pc3 hb⟩
set_option maxHeartbeats 1000000 in
theorem awake_any (w : World) : Calls Try.prog 5 #[] w fun e w' => e = .returned (.bool true) ∧ Below w.heap.size w w' := by
  have h0 : ∀ w, Calls Try.prog 7 #[.agg #[.int .i64 3, .int .i64 2, .int .i64 3, .int .i64 10], .int .i64 0] w fun e w' => e = .returned (.int .i64 2) ∧ Made w w' := fun w => ex_w0 ▸ wait_any ex ex_good 0 (by omega) (by omega) w
  have h1 : ∀ w, Calls Try.prog 7 #[.agg #[.int .i64 3, .int .i64 2, .int .i64 3, .int .i64 10], .int .i64 1] w fun e w' => e = .returned (.int .i64 6) ∧ Made w w' := fun w => ex_w1 ▸ wait_any ex ex_good 1 (by omega) (by omega) w
  have h2 : ∀ w, Calls Try.prog 7 #[.agg #[.int .i64 3, .int .i64 2, .int .i64 3, .int .i64 10], .int .i64 2] w fun e w' => e = .returned (.int .i64 10) ∧ Made w w' := fun w => ex_w2 ▸ wait_any ex ex_good 2 (by omega) (by omega) w
  have h3 : ∀ w, Calls Try.prog 8 #[.agg #[.int .i64 3, .int .i64 2, .int .i64 3, .int .i64 10], .int .i64 4] w fun e w' => e = .returned (.int .i64 28) ∧ Made w w' := fun w => ex_t4 ▸ total_any ex ex_good 4 (by omega) (by omega) w
  have h4 : ∀ w, Calls Try.prog 10 #[.agg #[.int .i64 3, .int .i64 2, .int .i64 3, .int .i64 10], .int .i64 1] w fun e w' => e = .returned (.int .i64 3) ∧ Made w w' := fun w => ex_l1 ▸ left_any ex ex_good 1 (by omega) w
  have H0 := Lib.hid h0; have H1 := Lib.hid h1; have H2 := Lib.hid h2; have H3 := Lib.hid h3; have H4 := Lib.hid h4
  clear h0 h1 h2 h3 h4
  go_enter Try.func5, Try.ntmps5
  go_wp2_with (first
    | (go_at_call 7; (with_reducible refine (H0.out _).mono ?_); rintro e w1 ⟨rfl, hm⟩; have M1 := Lib.hid (hm); clear hm; obtain ⟨_, _, _, _⟩ := own_ex M1.out)
    | (go_at_call 7; (with_reducible refine (H1.out _).mono ?_); rintro e w2 ⟨rfl, hm⟩; have M2 := Lib.hid (M1.out.trans hm); clear hm; obtain ⟨_, _, _, _⟩ := own_ex M2.out)
    | (go_at_call 7; (with_reducible refine (H2.out _).mono ?_); rintro e w3 ⟨rfl, hm⟩; have M3 := Lib.hid (M2.out.trans hm); clear hm; obtain ⟨_, _, _, _⟩ := own_ex M3.out)
    | (go_at_call 8; (with_reducible refine (H3.out _).mono ?_); rintro e w4 ⟨rfl, hm⟩; have M4 := Lib.hid (M3.out.trans hm); clear hm; obtain ⟨_, _, _, _⟩ := own_ex M4.out)
    | (go_at_call 10; (with_reducible refine (H4.out _).mono ?_); rintro e w5 ⟨rfl, hm⟩; have M5 := Lib.hid (M4.out.trans hm); clear hm))
  go_ret
  exact ⟨rfl, ((Made.alloc _ _).trans M5.out).below⟩
end Go.Proofs.Ytjkjondfechogaa.Bo
