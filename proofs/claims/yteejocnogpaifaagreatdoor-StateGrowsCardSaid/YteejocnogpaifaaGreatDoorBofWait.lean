/-
  What the functions of package backoff answer, at a plan by value: the wait behind another one, Left and Wait. Each lays its plan in a block of its own, and turns nothing else.
  Conditions: a plan is right, where a contract asks it.
-/
import Derived.Test.YteejocnogpaifaaGreatDoorBofGood
namespace Go.Proofs.YteejocnogpaifaaGreatDoor.Bo
open Go.RowKit Go.Sort

theorem times_val {a n : Int} (h0 : 0 ≤ a) (h1 : 0 ≤ n) (h2 : a * n ≤ 1099511627776) : ofT (a * n) = a * n := ofT_id (Int.mul_nonneg h0 h1) h2
set_option maxHeartbeats 400000 in
theorem ttimes_any (a b : Int) (w : World) :
    Calls Tryz.prog 138 #[.int .i64 a, .int .i64 b] w fun e w' => e = .returned (.int .i64 (timesT a b)) ∧ w = w' := by
  have h1 := ofT_lo a; have h2 := ofT_hi a; have h3 := ofT_lo b; have h4 := ofT_hi b
  by_cases hz : 0 < ofT a
  · by_cases hq : 1099511627776 / ofT a < ofT b
    · have hd : 0 ≤ 1099511627776 / ofT a := Int.ediv_nonneg (by omega) h1
      go_enter Tryz.func138, Tryz.ntmps138
      go_wp2_with (go_at_call 77; refine (tof_any _ _).mono ?_; rintro e w' ⟨rfl, rfl⟩)
      go_ret
      refine ⟨ret_int ?_, rfl⟩
      exact (ofT_big (times_over hz hq)).symm
    · have hp := times_under (n := ofT b) hz (by omega)
      have hp0 := Int.mul_nonneg h1 h3
      go_enter Tryz.func138, Tryz.ntmps138
      go_wp2_with (go_at_call 77; refine (tof_any _ _).mono ?_; rintro e w' ⟨rfl, rfl⟩)
      go_ret
      refine ⟨ret_int ?_, rfl⟩
      exact (times_val h1 h3 hp).symm
  · have hp : ofT a * ofT b ≤ 1099511627776 := by
      have : ofT a = 0 := by omega
      rw [this]; simp
    have hp0 := Int.mul_nonneg h1 h3
    go_enter Tryz.func138, Tryz.ntmps138
    go_wp2_with (go_at_call 77; refine (tof_any _ _).mono ?_; rintro e w' ⟨rfl, rfl⟩)
    go_ret
    refine ⟨ret_int ?_, rfl⟩
    exact (times_val h1 h3 hp).symm
set_option maxHeartbeats 800000 in
theorem behind_any (p : P) (x : Int) (w : World) :
    Calls Tryz.prog 134 #[.agg #[.int .i64 p.r, .int .i64 p.b, .int .i64 p.f, .int .i64 p.c], .int .i64 x] w fun e w' => e = .returned (.int .i64 (behind p x)) ∧ Made w w' := by
  have HT := Lib.hid (ttimes_any x p.f)
  go_enter Tryz.func134, Tryz.ntmps134
  go_wp2
  go_quiet ((go_at_call 138; exact Calls.quiet_of_same ((HT.out _).mono fun e w' ⟨h3, h4⟩ => ⟨h3, h4.symm⟩)))
  go_wp2
  all_goals
    go_ret
    exact ⟨ret_int (by unfold behind; omega), (Made.alloc _ _).trans (Made.drewN _ _)⟩
set_option maxHeartbeats 800000 in
theorem left_any (p : P) (h : p.Good) (n : Int) (hn : -9223372036854775808 ≤ n ∧ n ≤ 9223372036854775807) (w : World) :
    Calls Tryz.prog 129 #[.agg #[.int .i64 p.r, .int .i64 p.b, .int .i64 p.f, .int .i64 p.c], .int .i64 n] w fun e w' => e = .returned (.int .i64 (left p n)) ∧ Made w w' := by
  have HG := Lib.hid (good_is p (goodB_yes h))
  have hr : 0 ≤ p.r ∧ p.r ≤ 1000 := ⟨h.1, h.2.1⟩
  clear h
  go_enter Tryz.func129, Tryz.ntmps129
  go_wp2_with (go_at_call 118; refine (HG.out _).mono ?_; rintro e w1 ⟨rfl, hm⟩; have k0 := Pc0 (own_at hm); have HM := Lib.hid hm; clear hm)
  all_goals
    go_ret
    exact ⟨ret_int (by unfold left; omega), (Made.alloc _ _).trans HM.out⟩
set_option maxHeartbeats 800000 in
theorem wait_neg (p : P) (h : p.Good) (n : Int) (hn : n < 0) (w : World) :
    Calls Tryz.prog 126 #[.agg #[.int .i64 p.r, .int .i64 p.b, .int .i64 p.f, .int .i64 p.c], .int .i64 n] w fun e w' => e = .returned (.int .i64 0) ∧ Made w w' := by
  have HG := Lib.hid (good_is p (goodB_yes h))
  clear h
  go_enter Tryz.func126, Tryz.ntmps126
  go_wp2_with (go_at_call 118; refine (HG.out _).mono ?_; rintro e w1 ⟨rfl, hm⟩; have HM := Lib.hid hm; clear hm)
  go_ret
  exact ⟨rfl, (Made.alloc _ _).trans HM.out⟩
set_option maxHeartbeats 800000 in
theorem wait_any (p : P) (h : p.Good) (n : Int) (hn : 0 ≤ n) (hn' : n ≤ 9223372036854775807) (w : World) :
    Calls Tryz.prog 126 #[.agg #[.int .i64 p.r, .int .i64 p.b, .int .i64 p.f, .int .i64 p.c], .int .i64 n] w fun e w' => e = .returned (.int .i64 (wait p n.toNat)) ∧ Made w w' := by
  have HG := Lib.hid (good_is p (goodB_yes h))
  have HGood := Lib.hid h
  clear h
  go_enter Tryz.func126, Tryz.ntmps126
  go_wp2_with (go_at_call 118; refine (HG.out _).mono ?_; rintro e w1 ⟨rfl, hm⟩; have k1 := Pc1 (own_at hm); have HM := Lib.hid hm; clear hm)
  have HI := Lib.hid (And.intro (own_at HM.out) ((Made.alloc _ _).trans HM.out))
  clear HM k1 HG
  generalize w.heap.size = g at HI ⊢
  go_loopw [5, 17] (fun v i wr => ∃ k : Nat, (k : Int) ≤ n ∧ i = .int .i64 (k : Int) ∧ v = .int .i64 (wait p k) ∧ Hid (Box wr g 52 p.cells ∧ Made w wr)) (fun _ i _ => n.toNat - (intOf i).toNat)
  case atStart => exact ⟨0, by simpa using hn, rfl, rfl, HI.out⟩
  case round =>
    obtain ⟨k, hk, rfl, rfl, HR⟩ := hrel
    have k0 := Pc0 HR.out.1; have k1 := Pc1 HR.out.1; have k2 := Pc2 HR.out.1; have k3 := Pc3 HR.out.1
    by_cases hlt : (k : Int) < n
    · by_cases hq : behind p (wait p k) = wait p k
      · have hb : (behind p (wait p k) == wait p k) = true := by rw [hq]; simp
        have HQ : Hid (behind p (wait p k) = wait p k) := hq
        clear hq
        go_wp2_with (go_at_call 134; refine (behind_any _ _ _).mono ?_; rintro e w' ⟨rfl, hm⟩; have HM := Lib.hid hm; clear hm)
        go_ret
        exact ⟨ret_int (wait_stays HQ.out _ (by omega)).symm, HR.out.2.trans HM.out⟩
      · have hb : (behind p (wait p k) == wait p k) = false := by simpa using hq
        clear hq
        go_wp2_with (go_at_call 134; refine (behind_any _ _ _).mono ?_; rintro e w' ⟨rfl, hm⟩; have HM := Lib.hid hm; clear hm)
        go_roundw
        case rel => exact ⟨k + 1, by omega, by go_num, rfl, Box.made HR.out.1 HM.out, HR.out.2.trans HM.out⟩
        case measure => simp [intOf]; omega
    · go_wp2
      go_ret
      exact ⟨ret_int (by congr 1; omega), HR.out.2⟩
theorem wait_is (p : P) (h : p.Good) (n : Int) (hn' : n ≤ 9223372036854775807) (w : World) :
    Calls Tryz.prog 126 #[.agg #[.int .i64 p.r, .int .i64 p.b, .int .i64 p.f, .int .i64 p.c], .int .i64 n] w fun e w' => e = .returned (.int .i64 (if n < 0 then 0 else wait p n.toNat)) ∧ Made w w' := by
  by_cases hn : n < 0
  · rw [if_pos hn]; exact wait_neg p h n hn w
  · rw [if_neg hn]; exact wait_any p h n (by omega) hn' w
end Go.Proofs.YteejocnogpaifaaGreatDoor.Bo
