/-
  What the functions of package backoff answer, at a plan by value: Good, and the wait behind another one; and the document's own Good. Each lays its plan in a block of its own, and turns nothing else.
  Conditions: a plan is right, where a contract asks it.
-/
import Derived.Test.YtjkjondfechogaaRows
import Derived.Test.YtjkjondfechogaaFldMem
import Derived.Test.YtjkjondfechogaaBofMath
import Derived.WalkKit
import Derived.BigQuiet
import Derived.Deep.QuietTactic
import Derived.LoopTactic
import Derived.WalkMore
import Derived.Shelf.SlSortCmp.QuietGrown
namespace Go.Proofs.Ytjkjondfechogaa.Bo
open Go.RowKit Go.Sort

theorem ret_int {k : IntKind} {a b : Int} (h : a = b) : Ending.returned (.int k a) = .returned (.int k b) := by rw [h]
theorem ret_bool {a b : Bool} (h : a = b) : Ending.returned (.bool a) = .returned (.bool b) := by rw [h]
def P.cells (p : P) : Array Value := #[.int .i64 p.r, .int .i64 p.b, .int .i64 p.f, .int .i64 p.c]
/-- the world behind a plan's being laid -/
def P.lay (p : P) (w : World) : World := w.alloc (.cells p.cells 23)
def goodN (n : Int) : Bool := decide (0 ≤ n ∧ n ≤ 1099511627776)
set_option maxHeartbeats 400000 in
theorem tgood_any (n : Int) (w : World) :
    Calls Try.prog 15 #[.int .i64 n] w fun e w' => e = .returned (.bool (goodN n)) ∧ w = w' := by
  by_cases h : 0 ≤ n
  all_goals
    go_enter Try.func15, Try.ntmps15
    go_wp2
    go_ret
    refine ⟨ret_bool ?_, rfl⟩
    simp only [goodN, Bool.decide_and, h]
    simp <;> omega
set_option maxHeartbeats 400000 in
theorem tof_any (n : Int) (w : World) :
    Calls Try.prog 16 #[.int .i64 n] w fun e w' => e = .returned (.int .i64 (ofT n)) ∧ w = w' := by
  go_enter Try.func16, Try.ntmps16
  go_wp2
  all_goals
    go_ret
    refine ⟨ret_int ?_, rfl⟩
    unfold ofT
    repeat' split
    all_goals (first | omega | (split at * <;> omega))
set_option maxHeartbeats 400000 in
theorem tadd_any (a b : Int) (w : World) :
    Calls Try.prog 13 #[.int .i64 a, .int .i64 b] w fun e w' => e = .returned (.int .i64 (addT a b)) ∧ w = w' := by
  have h1 := ofT_lo a; have h2 := ofT_hi a; have h3 := ofT_lo b; have h4 := ofT_hi b
  go_enter Try.func13, Try.ntmps13
  go_wp2_with (go_at_call 16; refine (tof_any _ _).mono ?_; rintro e w' ⟨rfl, rfl⟩)
  go_ret
  exact ⟨rfl, rfl⟩
theorem times_val {a n : Int} (h0 : 0 ≤ a) (h1 : 0 ≤ n) (h2 : a * n ≤ 1099511627776) : ofT (a * n) = a * n := ofT_id (Int.mul_nonneg h0 h1) h2
set_option maxHeartbeats 400000 in
theorem ttimes_any (a b : Int) (w : World) :
    Calls Try.prog 14 #[.int .i64 a, .int .i64 b] w fun e w' => e = .returned (.int .i64 (timesT a b)) ∧ w = w' := by
  have h1 := ofT_lo a; have h2 := ofT_hi a; have h3 := ofT_lo b; have h4 := ofT_hi b
  by_cases hz : 0 < ofT a
  · by_cases hq : 1099511627776 / ofT a < ofT b
    · have hd : 0 ≤ 1099511627776 / ofT a := Int.ediv_nonneg (by omega) h1
      go_enter Try.func14, Try.ntmps14
      go_wp2_with (go_at_call 16; refine (tof_any _ _).mono ?_; rintro e w' ⟨rfl, rfl⟩)
      go_ret
      refine ⟨ret_int ?_, rfl⟩
      exact (ofT_big (times_over hz hq)).symm
    · have hp := times_under (n := ofT b) hz (by omega)
      have hp0 := Int.mul_nonneg h1 h3
      go_enter Try.func14, Try.ntmps14
      go_wp2_with (go_at_call 16; refine (tof_any _ _).mono ?_; rintro e w' ⟨rfl, rfl⟩)
      go_ret
      refine ⟨ret_int ?_, rfl⟩
      exact (times_val h1 h3 hp).symm
  · have hp : ofT a * ofT b ≤ 1099511627776 := by
      have : ofT a = 0 := by omega
      rw [this]; simp
    have hp0 := Int.mul_nonneg h1 h3
    go_enter Try.func14, Try.ntmps14
    go_wp2_with (go_at_call 16; refine (tof_any _ _).mono ?_; rintro e w' ⟨rfl, rfl⟩)
    go_ret
    refine ⟨ret_int ?_, rfl⟩
    exact (times_val h1 h3 hp).symm
/-- what a call leaves: it has drawn, and laid blocks of its own -/
def Made (w w' : World) : Prop := ∃ q os, w' = grow (w.drewN q) os
theorem Made.below {w w' : World} (h : Made w w') : Below w.heap.size w w' := by
  obtain ⟨q, os, rfl⟩ := h
  exact ⟨rfl, rfl, rfl, by rw [size_grow]; exact Nat.le_add_right _ _, fun i hi => by
    show (w.heap ++ os)[i]? = w.heap[i]?
    exact Array.getElem?_append_left hi⟩
theorem alloc_grow (w : World) (o : Obj) : w.alloc o = grow w #[o] := by
  unfold grow
  show { w with heap := w.heap.push o } = _
  simp
theorem Made.refl (w : World) : Made w w := ⟨0, #[], by rw [grow_empty]; rfl⟩
theorem Made.trans {a b c : World} (h : Made a b) (k : Made b c) : Made a c := by
  obtain ⟨q, os, rfl⟩ := h
  obtain ⟨q', os', rfl⟩ := k
  exact ⟨q + q', os ++ os', by show grow (grow ((a.drewN q).drewN q') os) os' = _; rw [grow_grow, World.drewN_drewN]⟩
theorem Made.alloc (w : World) (o : Obj) : Made w (w.alloc o) := ⟨0, #[o], alloc_grow w o⟩
theorem Made.drewN (w : World) (n : Nat) : Made w (w.drewN n) := ⟨n, #[], by rw [grow_empty]⟩
theorem Made.lay (p : P) (w : World) : Made w (p.lay w) := Made.alloc w _
theorem Box.made {w w' : World} {g : Nat} {t : TypeId} {cs : Array Value} (h : Box w g t cs) (hm : Made w w') : Box w' g t cs := h.below hm.below h.lt
theorem lay_box (p : P) (w : World) : Box (p.lay w) w.heap.size 23 p.cells := Box.new w _ _
def P.goodB (p : P) : Bool := decide p.Good
theorem goodB_yes {p : P} (h : p.Good) : p.goodB = true := decide_eq_true h
theorem goodB_no {p : P} (h : ¬p.Good) : p.goodB = false := decide_eq_false h
theorem goodB_iff {r b f c : Int} : (P.goodB ⟨r, b, f, c⟩ = true) = (0 ≤ r ∧ r ≤ 1000 ∧ 1 ≤ b ∧ b ≤ c ∧ c ≤ 1099511627776 ∧ 1 ≤ f ∧ f ≤ 16) := propext ⟨fun h => of_decide_eq_true h, fun h => decide_eq_true (p := P.Good ⟨r, b, f, c⟩) h⟩
/-- a plan as a value -/
def P.val (p : P) : Value := .agg p.cells
set_option maxHeartbeats 800000 in
theorem good_any (p : P) (w : World) :
    Calls Try.prog 11 #[p.val] w fun e w' => e = .returned (.bool p.goodB) ∧ Made w w' := by
  obtain ⟨r, b, f, c⟩ := p
  show Calls Try.prog 11 #[.agg #[.int .i64 r, .int .i64 b, .int .i64 f, .int .i64 c]] w fun e w' => e = .returned (.bool (P.goodB ⟨r, b, f, c⟩)) ∧ Made w w'
  have HG := Lib.hid (tgood_any c)
  by_cases h1 : 0 ≤ r
  all_goals by_cases h2 : 1 ≤ f
  all_goals
    go_enter Try.func11, Try.ntmps11
    go_wp2_with (go_at_call 15; refine (HG.out _).mono ?_; rintro e w' ⟨rfl, rfl⟩)
    all_goals
      go_ret
      refine ⟨ret_bool ?_, Made.alloc _ _⟩
      clear HG
      rw [Bool.eq_iff_iff]
      simp only [goodB_iff, goodN, decide_eq_true_eq, Bool.false_eq_true, false_iff]
      omega
section
variable {w : World} {g : Nat} {p : P} (h : Box w g 23 p.cells)
include h
theorem Pc0 : w.cell? ⟨g, 0, none⟩ = some (.int .i64 p.r) := h.cell 0
theorem Pc1 : w.cell? ⟨g, 1, none⟩ = some (.int .i64 p.b) := h.cell 1
theorem Pc2 : w.cell? ⟨g, 2, none⟩ = some (.int .i64 p.f) := h.cell 2
theorem Pc3 : w.cell? ⟨g, 3, none⟩ = some (.int .i64 p.c) := h.cell 3
end
theorem val_is (p : P) : p.val = .agg #[.int .i64 p.r, .int .i64 p.b, .int .i64 p.f, .int .i64 p.c] := rfl
theorem good_is (p : P) {v : Bool} (h : p.goodB = v) (w : World) : Calls Try.prog 11 #[.agg #[.int .i64 p.r, .int .i64 p.b, .int .i64 p.f, .int .i64 p.c]] w fun e w' => e = .returned (.bool v) ∧ Made w w' := h ▸ good_any p w
/-- the plan's own block, as a call lays it, behind whatever has been made since -/
theorem own_at {p : P} {w w' : World} (h : Made (w.alloc (.cells #[.int .i64 p.r, .int .i64 p.b, .int .i64 p.f, .int .i64 p.c] 23)) w') : Box w' w.heap.size 23 p.cells := Box.made (Box.new w _ _) h
set_option maxHeartbeats 800000 in
theorem behind_any (p : P) (x : Int) (w : World) :
    Calls Try.prog 12 #[.agg #[.int .i64 p.r, .int .i64 p.b, .int .i64 p.f, .int .i64 p.c], .int .i64 x] w fun e w' => e = .returned (.int .i64 (behind p x)) ∧ Made w w' := by
  have HT := Lib.hid (ttimes_any x p.f)
  go_enter Try.func12, Try.ntmps12
  go_wp2
  go_quiet ((go_at_call 14; exact Calls.quiet_of_same ((HT.out _).mono fun e w' ⟨h3, h4⟩ => ⟨h3, h4.symm⟩)))
  go_wp2
  all_goals
    go_ret
    exact ⟨ret_int (by unfold behind; omega), (Made.alloc _ _).trans (Made.drewN _ _)⟩
set_option maxHeartbeats 800000 in
theorem left_any (p : P) (h : p.Good) (n : Int) (hn : -9223372036854775808 ≤ n ∧ n ≤ 9223372036854775807) (w : World) :
    Calls Try.prog 10 #[.agg #[.int .i64 p.r, .int .i64 p.b, .int .i64 p.f, .int .i64 p.c], .int .i64 n] w fun e w' => e = .returned (.int .i64 (left p n)) ∧ Made w w' := by
  have HG := Lib.hid (good_is p (goodB_yes h))
  have hr : 0 ≤ p.r ∧ p.r ≤ 1000 := ⟨h.1, h.2.1⟩
  clear h
  go_enter Try.func10, Try.ntmps10
  go_wp2_with (go_at_call 11; refine (HG.out _).mono ?_; rintro e w1 ⟨rfl, hm⟩; have k0 := Pc0 (own_at hm); have HM := Lib.hid hm; clear hm)
  all_goals
    go_ret
    exact ⟨ret_int (by unfold left; omega), (Made.alloc _ _).trans HM.out⟩
set_option maxHeartbeats 800000 in
theorem wait_neg (p : P) (h : p.Good) (n : Int) (hn : n < 0) (w : World) :
    Calls Try.prog 7 #[.agg #[.int .i64 p.r, .int .i64 p.b, .int .i64 p.f, .int .i64 p.c], .int .i64 n] w fun e w' => e = .returned (.int .i64 0) ∧ Made w w' := by
  have HG := Lib.hid (good_is p (goodB_yes h))
  clear h
  go_enter Try.func7, Try.ntmps7
  go_wp2_with (go_at_call 11; refine (HG.out _).mono ?_; rintro e w1 ⟨rfl, hm⟩; have HM := Lib.hid hm; clear hm)
  go_ret
  exact ⟨rfl, (Made.alloc _ _).trans HM.out⟩
set_option maxHeartbeats 800000 in
theorem wait_any (p : P) (h : p.Good) (n : Int) (hn : 0 ≤ n) (hn' : n ≤ 9223372036854775807) (w : World) :
    Calls Try.prog 7 #[.agg #[.int .i64 p.r, .int .i64 p.b, .int .i64 p.f, .int .i64 p.c], .int .i64 n] w fun e w' => e = .returned (.int .i64 (wait p n.toNat)) ∧ Made w w' := by
  have HG := Lib.hid (good_is p (goodB_yes h))
  have HGood := Lib.hid h
  clear h
  go_enter Try.func7, Try.ntmps7
  go_wp2_with (go_at_call 11; refine (HG.out _).mono ?_; rintro e w1 ⟨rfl, hm⟩; have k1 := Pc1 (own_at hm); have HM := Lib.hid hm; clear hm)
  have HI := Lib.hid (And.intro (own_at HM.out) ((Made.alloc _ _).trans HM.out))
  clear HM k1 HG
  generalize w.heap.size = g at HI ⊢
  go_loopw [5, 17] (fun v i wr => ∃ k : Nat, (k : Int) ≤ n ∧ i = .int .i64 (k : Int) ∧ v = .int .i64 (wait p k) ∧ Hid (Box wr g 23 p.cells ∧ Made w wr)) (fun _ i _ => n.toNat - (intOf i).toNat)
  case atStart => exact ⟨0, by simpa using hn, rfl, rfl, HI.out⟩
  case round =>
    obtain ⟨k, hk, rfl, rfl, HR⟩ := hrel
    have k0 := Pc0 HR.out.1; have k1 := Pc1 HR.out.1; have k2 := Pc2 HR.out.1; have k3 := Pc3 HR.out.1
    by_cases hlt : (k : Int) < n
    · by_cases hq : behind p (wait p k) = wait p k
      · have hb : (behind p (wait p k) == wait p k) = true := by rw [hq]; simp
        have HQ : Hid (behind p (wait p k) = wait p k) := hq
        clear hq
        go_wp2_with (go_at_call 12; refine (behind_any _ _ _).mono ?_; rintro e w' ⟨rfl, hm⟩; have HM := Lib.hid hm; clear hm)
        go_ret
        exact ⟨ret_int (wait_stays HQ.out _ (by omega)).symm, HR.out.2.trans HM.out⟩
      · have hb : (behind p (wait p k) == wait p k) = false := by simpa using hq
        clear hq
        go_wp2_with (go_at_call 12; refine (behind_any _ _ _).mono ?_; rintro e w' ⟨rfl, hm⟩; have HM := Lib.hid hm; clear hm)
        go_roundw
        case rel => exact ⟨k + 1, by omega, by go_num, rfl, Box.made HR.out.1 HM.out, HR.out.2.trans HM.out⟩
        case measure => simp [intOf]; omega
    · go_wp2
      go_ret
      exact ⟨ret_int (by congr 1; omega), HR.out.2⟩
theorem wait_is (p : P) (h : p.Good) (n : Int) (hn' : n ≤ 9223372036854775807) (w : World) :
    Calls Try.prog 7 #[.agg #[.int .i64 p.r, .int .i64 p.b, .int .i64 p.f, .int .i64 p.c], .int .i64 n] w fun e w' => e = .returned (.int .i64 (if n < 0 then 0 else wait p n.toNat)) ∧ Made w w' := by
  by_cases hn : n < 0
  · rw [if_pos hn]; exact wait_neg p h n hn w
  · rw [if_neg hn]; exact wait_any p h n (by omega) hn' w
set_option maxHeartbeats 800000 in
theorem total_any (p : P) (h : p.Good) (n : Int) (hn : -9223372036854775808 ≤ n) (hn' : n ≤ 9223372036854775807) (w : World) :
    Calls Try.prog 8 #[.agg #[.int .i64 p.r, .int .i64 p.b, .int .i64 p.f, .int .i64 p.c], .int .i64 n] w fun e w' => e = .returned (.int .i64 (total p n.toNat)) ∧ Made w w' := by
  have HG := Lib.hid (good_is p (goodB_yes h))
  have HGood := Lib.hid h
  clear h
  go_enter Try.func8, Try.ntmps8
  go_wp2_with (go_at_call 11; refine (HG.out _).mono ?_; rintro e w1 ⟨rfl, hm⟩; have k1 := Pc1 (own_at hm); have HM := Lib.hid hm; clear hm)
  have HI := Lib.hid (And.intro (own_at HM.out) ((Made.alloc _ _).trans HM.out))
  clear HM HG
  generalize w.heap.size = g at k1 HI ⊢
  go_quiet (fail)
  go_wp2
  have HJ : Hid (Box (w1.drewN nq) g 23 p.cells ∧ Made w (w1.drewN nq)) := ⟨HI.out.1.drewN nq, HI.out.2.trans (Made.drewN _ _)⟩
  clear HI k1
  go_loopw [5, 6, 15] (fun t v i wr => ∃ k : Nat, k ≤ n.toNat ∧ i = .int .i64 (k : Int) ∧ v = .int .i64 (wait p k) ∧ t = .int .i64 (total p k) ∧ Hid (Box wr g 23 p.cells ∧ Made w wr)) (fun _ _ i _ => n.toNat - (intOf i).toNat)
  case atStart => exact ⟨0, Nat.zero_le _, rfl, rfl, rfl, HJ.out⟩
  case round =>
    obtain ⟨k, hk, rfl, rfl, rfl, HR⟩ := hrel
    have k0 := Pc0 HR.out.1; have k1 := Pc1 HR.out.1; have k2 := Pc2 HR.out.1; have k3 := Pc3 HR.out.1
    have HT := Lib.hid (total_stays (k := k) HGood.out)
    by_cases hlt : (k : Int) < n
    · have hsub : wrap64 (n - (k : Int)) = n - (k : Int) := by unfold wrap64; omega
      by_cases hq : behind p (wait p k) = wait p k
      · have hb : (behind p (wait p k) == wait p k) = true := by rw [hq]; simp
        have HQ : Hid (behind p (wait p k) = wait p k) := hq
        clear hq
        go_wp2_with (first
          | (go_at_call 12; refine (behind_any _ _ _).mono ?_; rintro e w' ⟨rfl, hm⟩; have HM := Lib.hid hm; clear hm)
          | (go_at_call 14; refine (ttimes_any _ _ _).mono ?_; rintro e w2 ⟨rfl, rfl⟩)
          | (go_at_call 13; refine (tadd_any _ _ _).mono ?_; rintro e w2 ⟨rfl, rfl⟩))
        go_ret
        exact ⟨ret_int (by rw [HT.out HQ.out n.toNat (by omega), show ((n.toNat : Nat) : Int) = n by omega]), HR.out.2.trans HM.out⟩
      · have hb : (behind p (wait p k) == wait p k) = false := by simpa using hq
        clear hq
        go_wp2_with (first
          | (go_at_call 12; refine (behind_any _ _ _).mono ?_; rintro e w' ⟨rfl, hm⟩; have HM := Lib.hid hm; clear hm)
          | (go_at_call 13; refine (tadd_any _ _ _).mono ?_; rintro e w2 ⟨rfl, rfl⟩))
        go_roundw
        case rel => exact ⟨k + 1, by omega, by go_num, rfl, rfl, Box.made HR.out.1 HM.out, HR.out.2.trans HM.out⟩
        case measure => simp [intOf]; omega
    · go_wp2
      go_ret
      exact ⟨ret_int (by congr 1; omega), HR.out.2⟩
theorem same_made {f : FuncId} {args : Array Value} {w : World} {v : Value} (h : Calls Try.prog f args w fun e w' => e = .returned v ∧ w = w') : Calls Try.prog f args w fun e w' => e = .returned v ∧ Made w w' :=
  h.mono fun _ _ ⟨h1, h2⟩ => ⟨h1, h2 ▸ Made.refl w⟩
/-- a plan's cells, whatever has been made since -/
theorem Pall {w : World} {g : Nat} {p : P} (h : Box w g 23 p.cells) :
    (∀ n os, (grow (w.drewN n) os).cell? ⟨g, 0, none⟩ = some (.int .i64 p.r)) ∧ (∀ n os, (grow (w.drewN n) os).cell? ⟨g, 1, none⟩ = some (.int .i64 p.b)) ∧
      (∀ n os, (grow (w.drewN n) os).cell? ⟨g, 2, none⟩ = some (.int .i64 p.f)) ∧ (∀ n os, (grow (w.drewN n) os).cell? ⟨g, 3, none⟩ = some (.int .i64 p.c)) :=
  ⟨fun n os => cell_grown h.lt (Pc0 h) n os, fun n os => cell_grown h.lt (Pc1 h) n os, fun n os => cell_grown h.lt (Pc2 h) n os, fun n os => cell_grown h.lt (Pc3 h) n os⟩
set_option maxHeartbeats 800000 in
theorem worst_any (p : P) (h : p.Good) (t : Int) (w : World) :
    Calls Try.prog 9 #[.agg #[.int .i64 p.r, .int .i64 p.b, .int .i64 p.f, .int .i64 p.c], .int .i64 t] w fun e w' => e = .returned (.int .i64 (worst p t)) ∧ Made w w' := by
  have hL : ∀ w, Calls Try.prog 10 #[.agg #[.int .i64 p.r, .int .i64 p.b, .int .i64 p.f, .int .i64 p.c], .int .i64 0] w fun e w' => e = .returned (.int .i64 (p.r + 1)) ∧ Made w w' := fun w => by
    have := left_any p h 0 (by omega) w
    rw [left_in h (by omega) (by have := h.1; omega), Int.sub_zero] at this
    exact this
  have hT : ∀ w, Calls Try.prog 8 #[.agg #[.int .i64 p.r, .int .i64 p.b, .int .i64 p.f, .int .i64 p.c], .int .i64 p.r] w fun e w' => e = .returned (.int .i64 (total p p.r.toNat)) ∧ Made w w' := fun w => total_any p h p.r (by have := h.1; omega) (by have := h.2.1; omega) w
  have HL := Lib.hid hL; have HT := Lib.hid hT
  have mixed : Try.prog.follows .mixedOrders = true := by kernel_rfl
  clear hL hT h
  go_enter Try.func9, Try.ntmps9
  go_wp2
  obtain ⟨k0, k1, k2, k3⟩ := Pall (p := p) (Box.new w 23 p.cells)
  have HM := Lib.hid (Made.alloc w (.cells p.cells 23))
  unfold P.cells at k0 k1 k2 k3 HM
  generalize w.alloc _ = W0 at k0 k1 k2 k3 HM ⊢
  go_quiet_grown (first
    | (go_at_call 10; exact Calls.grown_of (HL.out _))
    | (go_at_call 8; exact Calls.grown_of (HT.out _))
    | (go_at_call 14; exact Calls.grown_of (same_made (ttimes_any _ _ _)))
    | (go_at_call 13; exact Calls.grown_of (same_made (tadd_any _ _ _))))
  go_wp2
  go_ret
  exact ⟨ret_int rfl, HM.out.trans ⟨nq, osq, rfl⟩⟩
end Go.Proofs.Ytjkjondfechogaa.Bo
