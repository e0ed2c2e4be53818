/-
  Contracts of a guard's functions over Grd; the statements' own awake: it answers true.
  Conditions: none.
-/
import Derived.Test.YtapnnlebokcmgaaGrdArg
namespace Go.Proofs.Ytapnnlebokcmgaa.Gd
open Go.RowKit
open Go.Proofs.Ytapnnlebokcmgaa.Bk (S Brk Aft kind ret_int ret_bool)
section
variable {w : World} {g : Nat} {X : Nat → Prop} {L : List Gt}
theorem flying_any (h : Grd w g X L) (p : Int) : Calls Try.prog 12 #[ptr g, .int .i64 p] w fun e w' => e = .returned (.int .i64 (flyG L p)) ∧ w = w' := by
  obtain ⟨v, rs, h1, rfl⟩ := h
  exact flying_raw h1 p
theorem state_any (h : Grd w g X L) (p now : Int) : Calls Try.prog 8 #[ptr g, .int .i64 p, .int .i64 now] w fun e w' => e = .returned (.int .i64 (stateG L p now)) ∧ w = w' := by
  obtain ⟨v, rs, h1, rfl⟩ := h
  exact state_raw h1 p now
theorem may_any (h : Grd w g X L) (p now : Int) : Calls Try.prog 13 #[ptr g, .int .i64 p, .int .i64 now] w fun e w' => e = .returned (.int .i64 (mayG L p now)) ∧ ∃ n, w' = w.drewN n := by
  obtain ⟨v, rs, h1, rfl⟩ := h
  exact may_raw h1 p now
theorem send_any (h : Grd w g X L) (p now : Int) : Calls Try.prog 9 #[ptr g, .int .i64 p, .int .i64 now] w fun e w' => e = .returned (.int .i64 (mayG L p now)) ∧ Did w g X (sendG L p now) w' := by
  obtain ⟨v, rs, h1, rfl⟩ := h
  exact send_raw h1 p now
theorem over_any (h : Grd w g X L) (p now how : Int) : Calls Try.prog 10 #[ptr g, .int .i64 p, .int .i64 now, .int .i64 how] w fun e w' => e = .returned (.int .i64 (overA L p how)) ∧ Did w g X (overG L p now how) w' := by
  obtain ⟨v, rs, h1, rfl⟩ := h
  exact over_raw h1 p now how
theorem res_any (h : Grd w g X L) (p k : Int) : Calls Try.prog 11 #[ptr g, .int .i64 p, .int .i64 k] w fun e w' => e = .returned (.int .i64 (resA L p k)) ∧ Did w g X (resG L p k) w' := by
  obtain ⟨v, rs, h1, rfl⟩ := h
  exact res_raw h1 p k
theorem find_any (h : Grd w g X L) (s : ByteArray) : Calls Try.prog 23 #[ptr g, .string s] w fun e w' => e = .returned (.int .i64 (findI L s)) ∧ Below w.heap.size w w' := by
  obtain ⟨v, rs, h1, rfl⟩ := h
  exact find_raw h1 s
end
def pay : Pty := ⟨⟨#[112, 97, 121]⟩, 1, 1, 5, 1⟩
theorem pay_in : Ins [pay] 1 := fun i p hi hp => by
  obtain rfl : i = 0 := by omega
  simp only [List.getElem?_cons_zero, Option.some.injEq] at hp
  subst hp
  decide +kernel
theorem new_pay (w : World) : Calls Try.prog 7 #[.slice (some ⟨w.heap.size, 0, none⟩) 1 1] (w.alloc (.cells pay.arr 37)) fun e w' =>
    ∃ g, w.heap.size + 1 ≤ g ∧ e = .returned (.tuple #[.pointer (some ⟨g, 0, none⟩), .int .i64 (-1), .int .i64 0]) ∧ Grd w' g (fun i => i < w.heap.size + 1) [gnew pay] ∧ Below w.heap.size w w' := by
  have hp : Ptys (w.alloc (.cells pay.arr 37)) (w.alloc (.cells pay.arr 37)).heap.size (some ⟨w.heap.size, 0, none⟩) [pay] := fun i p hp => by
    have hi : i = 0 := by
      rcases Nat.eq_zero_or_pos i with h | h
      · exact h
      · rw [List.getElem?_eq_none (show [pay].length ≤ i from h)] at hp; cases hp
    subst hi
    simp only [List.getElem?_cons_zero, Option.some.injEq] at hp
    subst hp
    refine ⟨w.heap.size, 0, rfl, by simp, fun j u hu => ?_⟩
    rw [Nat.zero_mul, Nat.zero_add, (Box.new w 37 pay.arr).cell j, ← hu]
    simp [Pty.arr, Pty.cells]
  refine (new_any (some ⟨w.heap.size, 0, none⟩) [pay] 1 _ hp (fun p h => by rw [List.mem_singleton.1 h]; decide) (by decide)).mono ?_
  rintro e w' ⟨hb, h⟩
  have hs : (w.alloc (.cells pay.arr 37)).heap.size = w.heap.size + 1 := by simp
  rw [hs] at hb h
  have hB : Below w.heap.size w w' := ((Below.refl w.heap.size w).alloc (Nat.le_refl _) _).trans (hb.mono (by omega))
  rcases h with ⟨h1, _⟩ | ⟨_, k, p, h2, h3, h4, _⟩ | ⟨_, _, g, h3, h4, h5⟩
  · exact absurd h1 (by decide)
  · have hk : k = 0 := by
      rcases Nat.eq_zero_or_pos k with h | h
      · exact h
      · rw [List.getElem?_eq_none (show [pay].length ≤ k from h)] at h3; cases h3
    subst hk
    exact absurd (pay_in 0 p (by omega) h3) h4
  · exact ⟨g, h3, h4, h5, hB⟩
theorem pay_may : mayG [gnew pay] 0 0 = 0 := by decide +kernel
theorem pay_full : mayG (sendG [gnew pay] 0 0) 0 0 = 8 := by decide +kernel
theorem pay_fly : flyG (sendG [gnew pay] 0 0) 0 = 1 := by decide +kernel
set_option maxHeartbeats 1000000 in
set_option maxRecDepth 100000 in
theorem awake_any (w : World) : Calls Try.prog 5 #[] w fun e w' => e = .returned (.bool true) ∧ Below w.heap.size w w' := by
  have HN := Lib.hid (new_pay w)
  have HS := Lib.hid fun w' g (h : Grd w' g (fun i => i < w.heap.size + 1) [gnew pay]) => by
    have := send_any h 0 0
    rw [pay_may] at this
    exact this
  have HM := Lib.hid fun w' g (h : Grd w' g (fun i => i < w.heap.size + 1) (sendG [gnew pay] 0 0)) => by
    have := may_any h 0 0
    rw [pay_full] at this
    exact this
  have HF := Lib.hid fun w' g (h : Grd w' g (fun i => i < w.heap.size + 1) (sendG [gnew pay] 0 0)) => by
    have := flying_any h 0
    rw [pay_fly] at this
    exact this
  unfold ptr at HS HM HF
  unfold Pty.arr pay at HN
  unfold pay at HS HM HF
  go_enter Try.func5, Try.ntmps5
  go_wp2_with (first
    | (go_at_call 7; (with_reducible refine HN.out.mono ?_); rintro e w1 ⟨g, hg, rfl, hG, hb⟩; have HG := Lib.hid hG; have HB := Lib.hid hb; clear hG hb)
    | (go_at_call 9; (with_reducible refine (HS.out _ _ HG.out).mono ?_); rintro e w2 ⟨rfl, hd⟩; have HD := Lib.hid hd; have HD1 := Lib.hid hd.1; have HD3 := Lib.hid (fun n => hd.1.drewN n); clear hd)
    | (go_at_call 13; (with_reducible refine (HM.out _ _ HD1.out).mono ?_); rintro e w3 ⟨rfl, n, rfl⟩)
    | (go_at_call 12; (with_reducible refine (HF.out _ _ (HD3.out _)).mono ?_); rintro e w4 ⟨rfl, rfl⟩))
  go_ret
  exact ⟨rfl, HB.out.trans ((HD.out.2.drewN n).below HB.out.size (fun i hi => Nat.lt_succ_of_lt hi))⟩
end Go.Proofs.Ytapnnlebokcmgaa.Gd
