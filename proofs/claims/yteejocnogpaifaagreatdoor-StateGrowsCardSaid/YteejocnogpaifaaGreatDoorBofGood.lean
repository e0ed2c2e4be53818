/-
  What Good of package backoff answers, at a plan by value, and Good, Of and Add of package tick; what a call leaves that makes blocks of its own.
  Conditions: none.
-/
import Derived.Test.YteejocnogpaifaaGreatDoorRows
import Derived.Test.YteejocnogpaifaaGreatDoorFldMem
import Derived.Test.YteejocnogpaifaaGreatDoorBofMath
import Derived.WalkKit
import Derived.BigQuiet
import Derived.Deep.QuietTactic
import Derived.LoopTactic
import Derived.WalkMore
import Derived.Shelf.SlSortCmp.QuietGrown
namespace Go.Proofs.YteejocnogpaifaaGreatDoor.Bo
open Go.RowKit Go.Sort

theorem ret_int {k : IntKind} {a b : Int} (h : a = b) : Ending.returned (.int k a) = .returned (.int k b) := by rw [h]
theorem ret_bool {a b : Bool} (h : a = b) : Ending.returned (.bool a) = .returned (.bool b) := by rw [h]
def P.cells (p : P) : Array Value := #[.int .i64 p.r, .int .i64 p.b, .int .i64 p.f, .int .i64 p.c]
/-- the world behind a plan's being laid -/
def P.lay (p : P) (w : World) : World := w.alloc (.cells p.cells 52)
def goodN (n : Int) : Bool := decide (0 ≤ n ∧ n ≤ 1099511627776)
set_option maxHeartbeats 400000 in
theorem tgood_any (n : Int) (w : World) :
    Calls Tryz.prog 36 #[.int .i64 n] w fun e w' => e = .returned (.bool (goodN n)) ∧ w = w' := by
  by_cases h : 0 ≤ n
  all_goals
    go_enter Tryz.func36, Tryz.ntmps36
    go_wp2
    go_ret
    refine ⟨ret_bool ?_, rfl⟩
    simp only [goodN, Bool.decide_and, h]
    simp <;> omega
set_option maxHeartbeats 400000 in
theorem tof_any (n : Int) (w : World) :
    Calls Tryz.prog 77 #[.int .i64 n] w fun e w' => e = .returned (.int .i64 (ofT n)) ∧ w = w' := by
  go_enter Tryz.func77, Tryz.ntmps77
  go_wp2
  all_goals
    go_ret
    refine ⟨ret_int ?_, rfl⟩
    unfold ofT
    repeat' split
    all_goals (first | omega | (split at * <;> omega))
set_option maxHeartbeats 400000 in
theorem tadd_any (a b : Int) (w : World) :
    Calls Tryz.prog 105 #[.int .i64 a, .int .i64 b] w fun e w' => e = .returned (.int .i64 (addT a b)) ∧ w = w' := by
  have h1 := ofT_lo a; have h2 := ofT_hi a; have h3 := ofT_lo b; have h4 := ofT_hi b
  go_enter Tryz.func105, Tryz.ntmps105
  go_wp2_with (go_at_call 77; refine (tof_any _ _).mono ?_; rintro e w' ⟨rfl, rfl⟩)
  go_ret
  exact ⟨rfl, rfl⟩
/-- what a call leaves: it has drawn, and laid blocks of its own -/
def Made (w w' : World) : Prop := ∃ q os, w' = grow (w.drewN q) os
theorem Made.below {w w' : World} (h : Made w w') : Below w.heap.size w w' := by
  obtain ⟨q, os, rfl⟩ := h
  exact ⟨rfl, rfl, rfl, by rw [size_grow]; exact Nat.le_add_right _ _, fun i hi => by
    show (w.heap ++ os)[i]? = w.heap[i]?
    exact Array.getElem?_append_left hi⟩
theorem alloc_grow (w : World) (o : Obj) : w.alloc o = grow w #[o] := by
  unfold grow
  show { w with heap := w.heap.push o } = _
  simp
theorem Made.refl (w : World) : Made w w := ⟨0, #[], by rw [grow_empty]; rfl⟩
theorem Made.trans {a b c : World} (h : Made a b) (k : Made b c) : Made a c := by
  obtain ⟨q, os, rfl⟩ := h
  obtain ⟨q', os', rfl⟩ := k
  exact ⟨q + q', os ++ os', by show grow (grow ((a.drewN q).drewN q') os) os' = _; rw [grow_grow, World.drewN_drewN]⟩
theorem Made.alloc (w : World) (o : Obj) : Made w (w.alloc o) := ⟨0, #[o], alloc_grow w o⟩
theorem Made.drewN (w : World) (n : Nat) : Made w (w.drewN n) := ⟨n, #[], by rw [grow_empty]⟩
theorem Made.lay (p : P) (w : World) : Made w (p.lay w) := Made.alloc w _
theorem Box.made {w w' : World} {g : Nat} {t : TypeId} {cs : Array Value} (h : Box w g t cs) (hm : Made w w') : Box w' g t cs := h.below hm.below h.lt
theorem lay_box (p : P) (w : World) : Box (p.lay w) w.heap.size 52 p.cells := Box.new w _ _
def P.goodB (p : P) : Bool := decide p.Good
theorem goodB_yes {p : P} (h : p.Good) : p.goodB = true := decide_eq_true h
theorem goodB_no {p : P} (h : ¬p.Good) : p.goodB = false := decide_eq_false h
theorem goodB_iff {r b f c : Int} : (P.goodB ⟨r, b, f, c⟩ = true) = (0 ≤ r ∧ r ≤ 1000 ∧ 1 ≤ b ∧ b ≤ c ∧ c ≤ 1099511627776 ∧ 1 ≤ f ∧ f ≤ 16) := propext ⟨fun h => of_decide_eq_true h, fun h => decide_eq_true (p := P.Good ⟨r, b, f, c⟩) h⟩
/-- a plan as a value -/
def P.val (p : P) : Value := .agg p.cells
set_option maxHeartbeats 800000 in
theorem good_any (p : P) (w : World) :
    Calls Tryz.prog 118 #[p.val] w fun e w' => e = .returned (.bool p.goodB) ∧ Made w w' := by
  obtain ⟨r, b, f, c⟩ := p
  show Calls Tryz.prog 118 #[.agg #[.int .i64 r, .int .i64 b, .int .i64 f, .int .i64 c]] w fun e w' => e = .returned (.bool (P.goodB ⟨r, b, f, c⟩)) ∧ Made w w'
  have HG := Lib.hid (tgood_any c)
  by_cases h1 : 0 ≤ r
  all_goals by_cases h2 : 1 ≤ f
  all_goals
    go_enter Tryz.func118, Tryz.ntmps118
    go_wp2_with (go_at_call 36; refine (HG.out _).mono ?_; rintro e w' ⟨rfl, rfl⟩)
    all_goals
      go_ret
      refine ⟨ret_bool ?_, Made.alloc _ _⟩
      clear HG
      rw [Bool.eq_iff_iff]
      simp only [goodB_iff, goodN, decide_eq_true_eq, Bool.false_eq_true, false_iff]
      omega
section
variable {w : World} {g : Nat} {p : P} (h : Box w g 52 p.cells)
include h
theorem Pc0 : w.cell? ⟨g, 0, none⟩ = some (.int .i64 p.r) := h.cell 0
theorem Pc1 : w.cell? ⟨g, 1, none⟩ = some (.int .i64 p.b) := h.cell 1
theorem Pc2 : w.cell? ⟨g, 2, none⟩ = some (.int .i64 p.f) := h.cell 2
theorem Pc3 : w.cell? ⟨g, 3, none⟩ = some (.int .i64 p.c) := h.cell 3
end
theorem val_is (p : P) : p.val = .agg #[.int .i64 p.r, .int .i64 p.b, .int .i64 p.f, .int .i64 p.c] := rfl
theorem good_is (p : P) {v : Bool} (h : p.goodB = v) (w : World) : Calls Tryz.prog 118 #[.agg #[.int .i64 p.r, .int .i64 p.b, .int .i64 p.f, .int .i64 p.c]] w fun e w' => e = .returned (.bool v) ∧ Made w w' := h ▸ good_any p w
/-- the plan's own block, as a call lays it, behind whatever has been made since -/
theorem own_at {p : P} {w w' : World} (h : Made (w.alloc (.cells #[.int .i64 p.r, .int .i64 p.b, .int .i64 p.f, .int .i64 p.c] 52)) w') : Box w' w.heap.size 52 p.cells := Box.made (Box.new w _ _) h
end Go.Proofs.YteejocnogpaifaaGreatDoor.Bo
