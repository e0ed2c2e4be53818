/-
  What the functions of package breaker answer, at a breaker in a block of its own: New, State, May, Send, Done, Lost, Until, Out; and what of the memory they turn.
  Conditions: a breaker's numbers are as New lets them be (S.Ok), where a walk asks it.
-/
import Derived.Test.YtapnnlebokcmgaaProg
import Derived.Test.YtapnnlebokcmgaaFldMem
import Derived.Test.YtapnnlebokcmgaaBrkMath
import Derived.WalkKit
import Derived.BigQuiet
import Derived.Deep.QuietTactic
namespace Go.Proofs.Ytapnnlebokcmgaa.Bk
open Go.RowKit

theorem ret_int {k : IntKind} {a b : Int} (h : a = b) : Ending.returned (.int k a) = .returned (.int k b) := by rw [h]
theorem ret_bool {a b : Bool} (h : a = b) : Ending.returned (.bool a) = .returned (.bool b) := by rw [h]
def goodN (n : Int) : Bool := decide (0 ≤ n ∧ n ≤ 1099511627776)
set_option maxHeartbeats 400000 in
theorem tgood_any (n : Int) (w : World) :
    Calls Try.prog 36 #[.int .i64 n] w fun e w' => e = .returned (.bool (goodN n)) ∧ w = w' := by
  by_cases h : 0 ≤ n
  all_goals
    go_enter Try.func36, Try.ntmps36
    go_wp2
    go_ret
    refine ⟨ret_bool ?_, rfl⟩
    simp only [goodN, Bool.decide_and, h]
    simp <;> omega
theorem tgood_yes {n : Int} (w : World) (h : goodN n = true) : Calls Try.prog 36 #[.int .i64 n] w fun e w' => e = .returned (.bool true) ∧ w = w' := by
  have := tgood_any n w
  rw [h] at this
  exact this
theorem tgood_no {n : Int} (w : World) (h : goodN n = false) : Calls Try.prog 36 #[.int .i64 n] w fun e w' => e = .returned (.bool false) ∧ w = w' := by
  have := tgood_any n w
  rw [h] at this
  exact this
set_option maxHeartbeats 400000 in
theorem tof_any (n : Int) (w : World) :
    Calls Try.prog 34 #[.int .i64 n] w fun e w' => e = .returned (.int .i64 (ofT n)) ∧ w = w' := by
  go_enter Try.func34, Try.ntmps34
  go_wp2
  all_goals
    go_ret
    refine ⟨ret_int ?_, rfl⟩
    unfold ofT
    repeat' split
    all_goals (first | omega | (split at * <;> omega))
set_option maxHeartbeats 400000 in
theorem tadd_any (a b : Int) (w : World) :
    Calls Try.prog 35 #[.int .i64 a, .int .i64 b] w fun e w' => e = .returned (.int .i64 (addT a b)) ∧ w = w' := by
  have h1 := ofT_lo a; have h2 := ofT_hi a; have h3 := ofT_lo b; have h4 := ofT_hi b
  go_enter Try.func35, Try.ntmps35
  go_wp2_with (go_at_call 34; refine (tof_any _ _).mono ?_; rintro e w' ⟨rfl, rfl⟩)
  go_ret
  exact ⟨rfl, rfl⟩
set_option maxHeartbeats 400000 in
theorem tdue_any (a b : Int) (w : World) :
    Calls Try.prog 24 #[.int .i64 a, .int .i64 b] w fun e w' => e = .returned (.bool (dueB a b)) ∧ w = w' := by
  go_enter Try.func24, Try.ntmps24
  go_wp2_with (go_at_call 34; refine (tof_any _ _).mono ?_; rintro e w' ⟨rfl, rfl⟩)
  go_ret
  exact ⟨rfl, rfl⟩

def S.cells (s : S) : Array Value := #[.int .i64 s.trip, .int .i64 s.cool, .int .i64 s.probes, .bool s.tr, .int .i64 s.fl, .int .i64 s.un, .int .i64 s.ou]
/-- a breaker at block g that has the numbers s -/
structure Brk (w : World) (g : Nat) (s : S) : Prop where
  box : Box w g 56 s.cells
  ok : s.Ok
/-- what a call of a breaker leaves: nothing but its block has turned -/
def Aft (w : World) (g : Nat) (s : S) (w' : World) : Prop := Brk w' g s ∧ w.grownBy w' (some g)
theorem Aft.refl {w : World} {g : Nat} {s : S} (h : Brk w g s) : Aft w g s w := ⟨h, ⟨rfl, rfl, rfl, Nat.le_refl _, fun _ _ _ => rfl⟩⟩
theorem Aft.trans {a b c : World} {g : Nat} {s t : S} (h : Aft a g s b) (k : Aft b g t c) : Aft a g t c := ⟨k.1, only_trans h.2 k.2⟩
theorem Brk.drewN {w : World} {g : Nat} {s : S} (h : Brk w g s) (n : Nat) : Brk (w.drewN n) g s := ⟨h.box, h.ok⟩
theorem Aft.drewN {a w : World} {g : Nat} {s : S} (h : Aft a g s w) (n : Nat) : Aft a g s (w.drewN n) := ⟨h.1.drewN n, only_drewN h.2 n⟩
section
variable {w : World} {g : Nat} {s : S}
theorem Brk.below {w' : World} {B : Nat} (h : Brk w g s) (hb : Below B w w') (hg : g < B) : Brk w' g s := ⟨h.box.below hb hg, h.ok⟩
theorem Brk.c0 (h : Brk w g s) : w.cell? ⟨g, 0, none⟩ = some (.int .i64 s.trip) := h.box.cell 0
theorem Brk.c1 (h : Brk w g s) : w.cell? ⟨g, 1, none⟩ = some (.int .i64 s.cool) := h.box.cell 1
theorem Brk.c2 (h : Brk w g s) : w.cell? ⟨g, 2, none⟩ = some (.int .i64 s.probes) := h.box.cell 2
theorem Brk.c3 (h : Brk w g s) : w.cell? ⟨g, 3, none⟩ = some (.bool s.tr) := h.box.cell 3
theorem Brk.c4 (h : Brk w g s) : w.cell? ⟨g, 4, none⟩ = some (.int .i64 s.fl) := h.box.cell 4
theorem Brk.c5 (h : Brk w g s) : w.cell? ⟨g, 5, none⟩ = some (.int .i64 s.un) := h.box.cell 5
theorem Brk.c6 (h : Brk w g s) : w.cell? ⟨g, 6, none⟩ = some (.int .i64 s.ou) := h.box.cell 6

set_option maxHeartbeats 400000 in
theorem state_any (h : Brk w g s) (now : Int) : Calls Try.prog 16 #[.pointer (some ⟨g, 0, none⟩), .int .i64 now] w fun e w' => e = .returned (.int .i64 (kind s now)) ∧ w = w' := by
  have c3 := h.c3; have c5 := h.c5
  have hu := h.ok.un
  have hd : dueB now s.un = decide (s.un ≤ ofT now) := by unfold dueB; rw [ofT_id hu.1 hu.2]
  by_cases ht : s.tr = true
  · by_cases hl : s.un ≤ ofT now
    · have hk : kind s now = 2 := by unfold kind; rw [if_pos ht, if_pos hl]
      rw [ht] at c3
      rw [hk]
      have hd' : ∀ w, Calls Try.prog 24 #[.int .i64 now, .int .i64 s.un] w fun e w' => e = .returned (.bool true) ∧ w = w' := fun w => by
        have := tdue_any now s.un w
        rw [hd, decide_eq_true hl] at this
        exact this
      have HD := Lib.hid hd'
      clear h hu hd hd' hl hk ht
      go_enter Try.func16, Try.ntmps16
      go_wp2_with (go_at_call 24; refine (HD.out _).mono ?_; rintro e w' ⟨rfl, rfl⟩)
      go_ret
      exact ⟨rfl, rfl⟩
    · have hk : kind s now = 1 := by unfold kind; rw [if_pos ht, if_neg hl]
      rw [ht] at c3
      rw [hk]
      have hd' : ∀ w, Calls Try.prog 24 #[.int .i64 now, .int .i64 s.un] w fun e w' => e = .returned (.bool false) ∧ w = w' := fun w => by
        have := tdue_any now s.un w
        rw [hd, decide_eq_false hl] at this
        exact this
      have HD := Lib.hid hd'
      clear h hu hd hd' hl hk ht
      go_enter Try.func16, Try.ntmps16
      go_wp2_with (go_at_call 24; refine (HD.out _).mono ?_; rintro e w' ⟨rfl, rfl⟩)
      go_ret
      exact ⟨rfl, rfl⟩
  · have hf : s.tr = false := by simpa using ht
    rw [kind_of_closed now hf]
    rw [hf] at c3
    clear h hu hd ht hf
    go_enter Try.func16, Try.ntmps16
    go_wp2
    go_ret
    exact ⟨rfl, rfl⟩
theorem state_is (h : Brk w g s) (now : Int) {k : Int} (hk : kind s now = k) : Calls Try.prog 16 #[.pointer (some ⟨g, 0, none⟩), .int .i64 now] w fun e w' => e = .returned (.int .i64 k) ∧ w = w' := hk ▸ state_any h now
set_option maxHeartbeats 400000 in
theorem may_any (h : Brk w g s) (now : Int) : Calls Try.prog 21 #[.pointer (some ⟨g, 0, none⟩), .int .i64 now] w fun e w' => e = .returned (.bool (may s now)) ∧ ∃ n, w' = w.drewN n := by
  have c2 := h.c2; have c6 := h.c6
  rcases kind_3 s now with hk | hk | hk
  · have hm : may s now = true := by unfold may; exact decide_eq_true (.inl hk)
    have HS := Lib.hid (state_is h now hk)
    rw [hm]
    clear h hk hm
    go_enter Try.func21, Try.ntmps21
    go_wp2_with (go_at_call 16; refine HS.out.mono ?_; rintro e w' ⟨rfl, rfl⟩)
    go_ret
    exact ⟨rfl, 0, rfl⟩
  · have hm : may s now = false := by unfold may; exact decide_eq_false (by omega)
    have HS := Lib.hid (state_is h now hk)
    rw [hm]
    clear h hk hm
    go_enter Try.func21, Try.ntmps21
    go_wp2_with (go_at_call 16; refine HS.out.mono ?_; rintro e w' ⟨rfl, rfl⟩)
    go_ret
    exact ⟨rfl, 0, rfl⟩
  · have hm : may s now = decide (s.ou < s.probes) := by
      unfold may
      rw [decide_eq_decide]
      omega
    have HS := Lib.hid (state_is h now hk)
    rw [hm]
    clear h hk hm
    go_enter Try.func21, Try.ntmps21
    go_wp2_with (go_at_call 16; refine HS.out.mono ?_; rintro e w' ⟨rfl, rfl⟩)
    go_quiet (fail)
    go_wp2
    go_ret
    exact ⟨rfl, _, rfl⟩
theorem may_is (h : Brk w g s) (now : Int) {b : Bool} (hb : may s now = b) : Calls Try.prog 21 #[.pointer (some ⟨g, 0, none⟩), .int .i64 now] w fun e w' => e = .returned (.bool b) ∧ ∃ n, w' = w.drewN n := hb ▸ may_any h now
end
end Go.Proofs.Ytapnnlebokcmgaa.Bk
