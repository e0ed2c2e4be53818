/-
  The statement BackoffWorstSaid: for every input the law function BackoffWorst returns true (of right plans, what all tries take at most never falls where the timeout rises and is at least their timeouts, as a tick, and as many tries are left as there may be, one less behind each), and the arguments read afterwards as before.
  Conditions: none beyond the statement's own (the arguments are integers that fit their kinds).
-/
import Derived.Test.YtjkjondfechogaaBofArg
namespace Go.Proofs.Ytjkjondfechogaa.backoffWorst
open Go.Proofs.Ytjkjondfechogaa.Bo
open Go.ChangeShapes Go.WideShapes Go.ChangeAt Go.RowKit Go.Sort

set_option maxHeartbeats 1000000 in
set_option maxRecDepth 100000 in
theorem walk_no (p : P) (h : ¬p.Good) (x y n : Int) (w : World) :
    Calls Try.prog 4 #[.agg #[.int .i64 p.r, .int .i64 p.b, .int .i64 p.f, .int .i64 p.c], .int .u32 x, .int .u32 y, .int .u16 n] w fun e w' => e = .returned (.bool true) ∧ Below w.heap.size w w' := by
  have HG := Lib.hid (rgood_is p (goodB_no h))
  clear h
  have HB0 := Lib.hid (Box.new w 23 p.cells)
  unfold P.cells at HB0
  go_enter Try.func4, Try.ntmps4
  go_wp2_with (first
    | (go_at_call 5; (with_reducible refine (awake_any _).mono ?_); rintro e w1 ⟨rfl, hb⟩; have H1 := Lib.hid hb; clear hb; obtain ⟨_, _, _, _⟩ := own_cells (p := p) H1.out)
    | (go_at_call 6; (with_reducible refine (HG.out _).mono ?_); rintro e w2 ⟨rfl, hm⟩; have H2 := Lib.hid hm; clear hm))
  go_ret
  exact ⟨rfl, (below_own H1.out).trans (H2.out.below.mono (below_own H1.out).size)⟩
set_option maxHeartbeats 2000000 in
set_option maxRecDepth 100000 in
theorem walk_yes (p : P) (h : p.Good) (x y n : Int) (hx : 0 ≤ x ∧ x ≤ 4294967295) (hy : 0 ≤ y ∧ y ≤ 4294967295) (hn : 0 ≤ n ∧ n ≤ 65535) (w : World) :
    Calls Try.prog 4 #[.agg #[.int .i64 p.r, .int .i64 p.b, .int .i64 p.f, .int .i64 p.c], .int .u32 x, .int .u32 y, .int .u16 n] w fun e w' => e = .returned (.bool true) ∧ Below w.heap.size w w' := by
  have HG := Lib.hid (rgood_is p (goodB_yes h))
  have hW : ∀ t w, Calls Try.prog 9 #[.agg #[.int .i64 p.r, .int .i64 p.b, .int .i64 p.f, .int .i64 p.c], .int .i64 t] w fun e w' => e = .returned (.int .i64 (worst p t)) ∧ Made w w' := worst_any p h
  have hL : ∀ m, 0 ≤ m → m ≤ p.r + 1 → ∀ w, Calls Try.prog 10 #[.agg #[.int .i64 p.r, .int .i64 p.b, .int .i64 p.f, .int .i64 p.c], .int .i64 m] w fun e w' => e = .returned (.int .i64 (p.r + 1 - m)) ∧ Made w w' := fun m h0 h1 w =>
    left_in h h0 h1 ▸ left_any p h m (by have := h.2.1; omega) w
  have HW := Lib.hid hW; have HL := Lib.hid hL
  have hr : 0 ≤ p.r ∧ p.r ≤ 1000 := ⟨h.1, h.2.1⟩
  have hwx : IntKind.i64.wrap x = x := by rw [IntKind.wrap_i64]; omega
  have hwy : IntKind.i64.wrap y = y := by rw [IntKind.wrap_i64]; omega
  have hwn : IntKind.i64.wrap n = n := by rw [IntKind.wrap_i64]; omega
  have mixed : Try.prog.follows .mixedOrders = true := by kernel_rfl
  have HM : Hid (∀ s t, s ≤ t → worst p s ≤ worst p t) := fun s t => worst_mono p
  have HS : Hid (∀ t, 0 ≤ t → t ≤ 1099511627776 → min (t * (p.r + 1)) 1099511627776 ≤ worst p t) := fun t => worst_least h
  have HP : Hid (∀ t, 0 ≤ t → t ≤ 4294967295 → 0 ≤ t * (p.r + 1) ∧ t * (p.r + 1) ≤ 4294967295 * 1001) := fun t h0 h1 => ⟨Int.mul_nonneg h0 (by omega), Int.mul_le_mul h1 (by omega) (by omega) (by omega)⟩
  clear h hW hL
  go_enter Try.func4, Try.ntmps4
  go_wp2_with (first
    | (go_at_call 5; (with_reducible refine (awake_any _).mono ?_); rintro e w1 ⟨rfl, hb⟩; have H1 := Lib.hid hb; clear hb; obtain ⟨_, _, _, _⟩ := own_cells (p := p) H1.out)
    | (go_at_call 6; (with_reducible refine (HG.out _).mono ?_); rintro e w2 ⟨rfl, hm⟩; have H2 := Lib.hid hm; clear hm))
  have HX := Lib.hid (own_then (p := p) H1.out H2.out)
  clear H1 H2 HG
  obtain ⟨k0, k1, k2, k3⟩ := Pall HX.out.1
  have hc : (x < y) ∨ (y < x) ∨ (x = y) := by omega
  rcases hc with hc | hc | hc
  · have hc1 : ¬y < x := by omega
    have b1 := HM.out x y (by omega)
    have b2 := HS.out x (by omega) (by omega)
    have b3 := HP.out x (by omega) (by omega)
    go_quiet_grown ((go_at_call 9; exact Calls.grown_of (HW.out _ _)))
    have HY := Lib.hid (then_made HX.out ⟨nq, osq, rfl⟩)
    clear HX k0 k1 k2 k3 HW
    generalize grow (w2.drewN nq) osq = w3 at HY ⊢
    have k0 := Pc0 HY.out.1
    go_wp2
    have hm : 0 ≤ n % (p.r + 2) ∧ n % (p.r + 2) ≤ p.r + 1 := ⟨Int.emod_nonneg _ (by omega), by have := Int.emod_lt_of_pos n (show 0 < p.r + 2 by omega); omega⟩
    generalize n % (p.r + 2) = m at hm ⊢
    clear k0 hwn HM HS HP
    obtain ⟨k0, k1, k2, k3⟩ := Pall HY.out.1
    have fr : IntKind.i64.wrap (p.r + 1) = p.r + 1 := by rw [IntKind.wrap_i64]; omega
    have fs : IntKind.i64.wrap (p.r + 1 - m) = p.r + 1 - m := by rw [IntKind.wrap_i64]; omega
    have fl : 0 ≤ p.r + 1 - m := by omega
    have fw : IntKind.i64.wrap (x * (p.r + 1)) = x * (p.r + 1) := by rw [IntKind.wrap_i64]; omega
    have b4 : x * (p.r + 1) ≤ 1099511627776 ∨ 1099511627776 < x * (p.r + 1) := by omega
    rcases b4 with b4 | b4
    · have b5 : x * (p.r + 1) ≤ worst p x := by omega
      have b6 : ¬1099511627776 < x * (p.r + 1) := by omega
      have hc2 : ¬y < x := by omega
      clear b2
      go_quiet_grown ((go_at_call 10; exact Calls.grown_of (HL.out _ (by omega) (by omega) _)))
      go_wp2
      go_ret
      exact ⟨rfl, (then_made HY.out ⟨nq, osq, rfl⟩).2⟩
    · have b5 : 1099511627776 ≤ worst p x := by omega
      have hc2 : ¬y < x := by omega
      clear b2
      go_quiet_grown ((go_at_call 10; exact Calls.grown_of (HL.out _ (by omega) (by omega) _)))
      go_wp2
      go_ret
      exact ⟨rfl, (then_made HY.out ⟨nq, osq, rfl⟩).2⟩
  · have hc1 : ¬x < y := by omega
    have b1 := HM.out y x (by omega)
    have b2 := HS.out y (by omega) (by omega)
    have b3 := HP.out y (by omega) (by omega)
    go_quiet_grown ((go_at_call 9; exact Calls.grown_of (HW.out _ _)))
    have HY := Lib.hid (then_made HX.out ⟨nq, osq, rfl⟩)
    clear HX k0 k1 k2 k3 HW
    generalize grow (w2.drewN nq) osq = w3 at HY ⊢
    have k0 := Pc0 HY.out.1
    go_wp2
    have hm : 0 ≤ n % (p.r + 2) ∧ n % (p.r + 2) ≤ p.r + 1 := ⟨Int.emod_nonneg _ (by omega), by have := Int.emod_lt_of_pos n (show 0 < p.r + 2 by omega); omega⟩
    generalize n % (p.r + 2) = m at hm ⊢
    clear k0 hwn HM HS HP
    obtain ⟨k0, k1, k2, k3⟩ := Pall HY.out.1
    have fr : IntKind.i64.wrap (p.r + 1) = p.r + 1 := by rw [IntKind.wrap_i64]; omega
    have fs : IntKind.i64.wrap (p.r + 1 - m) = p.r + 1 - m := by rw [IntKind.wrap_i64]; omega
    have fl : 0 ≤ p.r + 1 - m := by omega
    have fw : IntKind.i64.wrap (y * (p.r + 1)) = y * (p.r + 1) := by rw [IntKind.wrap_i64]; omega
    have b4 : y * (p.r + 1) ≤ 1099511627776 ∨ 1099511627776 < y * (p.r + 1) := by omega
    rcases b4 with b4 | b4
    · have b5 : y * (p.r + 1) ≤ worst p y := by omega
      have b6 : ¬1099511627776 < y * (p.r + 1) := by omega
      have hc2 : ¬x < y := by omega
      clear b2
      go_quiet_grown ((go_at_call 10; exact Calls.grown_of (HL.out _ (by omega) (by omega) _)))
      go_wp2
      go_ret
      exact ⟨rfl, (then_made HY.out ⟨nq, osq, rfl⟩).2⟩
    · have b5 : 1099511627776 ≤ worst p y := by omega
      have hc2 : ¬x < y := by omega
      clear b2
      go_quiet_grown ((go_at_call 10; exact Calls.grown_of (HL.out _ (by omega) (by omega) _)))
      go_wp2
      go_ret
      exact ⟨rfl, (then_made HY.out ⟨nq, osq, rfl⟩).2⟩
  · subst hc
    have hc1 : ¬x < x := by omega
    have b1 := HM.out x x (by omega)
    have b2 := HS.out x (by omega) (by omega)
    have b3 := HP.out x (by omega) (by omega)
    go_quiet_grown ((go_at_call 9; exact Calls.grown_of (HW.out _ _)))
    have HY := Lib.hid (then_made HX.out ⟨nq, osq, rfl⟩)
    clear HX k0 k1 k2 k3 HW
    generalize grow (w2.drewN nq) osq = w3 at HY ⊢
    have k0 := Pc0 HY.out.1
    go_wp2
    have hm : 0 ≤ n % (p.r + 2) ∧ n % (p.r + 2) ≤ p.r + 1 := ⟨Int.emod_nonneg _ (by omega), by have := Int.emod_lt_of_pos n (show 0 < p.r + 2 by omega); omega⟩
    generalize n % (p.r + 2) = m at hm ⊢
    clear k0 hwn HM HS HP
    obtain ⟨k0, k1, k2, k3⟩ := Pall HY.out.1
    have fr : IntKind.i64.wrap (p.r + 1) = p.r + 1 := by rw [IntKind.wrap_i64]; omega
    have fs : IntKind.i64.wrap (p.r + 1 - m) = p.r + 1 - m := by rw [IntKind.wrap_i64]; omega
    have fl : 0 ≤ p.r + 1 - m := by omega
    have fw : IntKind.i64.wrap (x * (p.r + 1)) = x * (p.r + 1) := by rw [IntKind.wrap_i64]; omega
    have b4 : x * (p.r + 1) ≤ 1099511627776 ∨ 1099511627776 < x * (p.r + 1) := by omega
    rcases b4 with b4 | b4
    · have b5 : x * (p.r + 1) ≤ worst p x := by omega
      have b6 : ¬1099511627776 < x * (p.r + 1) := by omega
      have hc2 : ¬x < x := by omega
      clear b2
      go_quiet_grown ((go_at_call 10; exact Calls.grown_of (HL.out _ (by omega) (by omega) _)))
      go_wp2
      go_ret
      exact ⟨rfl, (then_made HY.out ⟨nq, osq, rfl⟩).2⟩
    · have b5 : 1099511627776 ≤ worst p x := by omega
      have hc2 : ¬x < x := by omega
      clear b2
      go_quiet_grown ((go_at_call 10; exact Calls.grown_of (HL.out _ (by omega) (by omega) _)))
      go_wp2
      go_ret
      exact ⟨rfl, (then_made HY.out ⟨nq, osq, rfl⟩).2⟩
theorem walk (p : P) (x y n : Int) (hx : 0 ≤ x ∧ x ≤ 4294967295) (hy : 0 ≤ y ∧ y ≤ 4294967295) (hn : 0 ≤ n ∧ n ≤ 65535) (w : World) :
    Calls Try.prog 4 #[.agg #[.int .i64 p.r, .int .i64 p.b, .int .i64 p.f, .int .i64 p.c], .int .u32 x, .int .u32 y, .int .u16 n] w fun e w' => e = .returned (.bool true) ∧ Below w.heap.size w w' := by
  by_cases h : p.Good
  · exact walk_yes p h x y n hx hy hn w
  · exact walk_no p h x y n w

set_option maxRecDepth 100000 in
theorem lifted (os : Os) (started : os.Started) (H : Type) (enc : TypeId × Value → H) :
    ReturnsInHanded {} Try.checked os 4 .any (Rows.backoffWorstSpec.pre6 enc Try.prog Try.f4 Rows.backoffWorstRow.domain false) (Rows.backoffWorstSpec.post enc Try.prog Try.f4 false true false false) := by
  refine returnsInHanded_of_change_sized (C := Try.checked) own started (by kernel_rfl) Try.func4
    (ChangeSpec.witness6 (enc := enc) (C := Try.checked) false ⟨#[], #[.agg #[.int .i64 0, .int .i64 0, .int .i64 0, .int .i64 0], .int .u32 0, .int .u32 0, .int .u16 0], []⟩ 8 (by kernel_rfl) (by kernel_rfl) (by kernel_rfl) (by kernel_rfl)) ?_
  intro W base args ds gs before hval0 hW _ _ _
  have hval : ∀ (j : Nat) t v, Try.f4.params[j]? = some t → args[j]? = some v → Value.okWide Try.prog W .any base t v := hval0
  have hW' := hW
  obtain ⟨p, q, hA0, hV, rfl, _, _⟩ := hW
  have hA : DataW.TrodAll enc Try.prog W 0 (fun _ => true) true Try.f4.params.toList args.toList ds p := hA0
  rw [Try.params4] at hA hval
  obtain ⟨rfl, rfl⟩ := trodVars_none hV
  obtain ⟨v0, vs0, d0, ds0, p0, q0, hargs, rfl, rfl, h0, r0⟩ := trodAll_cons hA
  obtain ⟨v1, vs1, d1, ds1, p1, q1, rfl, rfl, rfl, h1, r1⟩ := trodAll_cons r0
  obtain ⟨v2, vs2, d2, ds2, p2, q2, rfl, rfl, rfl, h2, r2⟩ := trodAll_cons r1
  obtain ⟨v3, vs3, d3, ds3, p3, q3, rfl, rfl, rfl, h3, r3⟩ := trodAll_cons r2
  obtain ⟨rfl, rfl, rfl⟩ := trodAll_nil r3
  obtain rfl : args = #[v0, v1, v2, v3] := by cases args; simp_all
  obtain ⟨a0, e0, w0⟩ := arg_plan (hval 0 23 v0 rfl rfl) h0
  obtain ⟨a1, rfl, rfl, rfl, w1⟩ := open_int Try.underlying29 (hval 1 29 v1 rfl rfl) h1
  obtain ⟨a2, rfl, rfl, rfl, w2⟩ := open_int Try.underlying29 (hval 2 29 v2 rfl rfl) h2
  obtain ⟨a3, rfl, rfl, rfl, w3⟩ := open_int Try.underlying24 (hval 3 24 v3 rfl rfl) h3
  clear hA0 hval0
  simp only [List.append_nil] at hW'
  have hlt0 : ∀ x ∈ p0, x.block < W.heap.size := fun x hx => by simpa using hW'.lt x (by simp [hx])
  subst e0
  obtain ⟨n1, rfl⟩ : ∃ n : Nat, a1 = (n : Int) := ⟨a1.toNat, by obtain ⟨h, _⟩ : 0 ≤ a1 ∧ a1 ≤ 4294967295 := fits w1 rfl rfl; omega⟩
  obtain ⟨n2, rfl⟩ : ∃ n : Nat, a2 = (n : Int) := ⟨a2.toNat, by obtain ⟨h, _⟩ : 0 ≤ a2 ∧ a2 ≤ 4294967295 := fits w2 rfl rfl; omega⟩
  refine (walk a0 _ _ a3 (fits w1 rfl rfl) (fits w2 rfl rfl) (fits w3 rfl rfl) W).mono fun e W' ⟨he, bel⟩ => ?_
  subst he
  exact ⟨_, rfl, _, _, _, [], _, [], hW', trodAll_mk1 (shut_bool Try.underlying4 _), (trodAll_cons_mk (Below.trod laidOut (by kernel_rfl) (of_decide_eq_true (by kernel_rfl)) h0 bel hlt0) (trodAll_cons_mk (shut_int Try.underlying29 w1) (trodAll_cons_mk (shut_int Try.underlying29 w2) (trodAll_cons_mk (shut_int Try.underlying24 w3) trodAll_mk0)))), rfl, bel.frame _, fun h => by cases h⟩

/-- the statement -/
theorem proved : Rows.BackoffWorstSaid :=
  OpenClaim.holds_of_wide 4 Try.f4 rfl rfl rfl rfl rfl rfl rfl ⟨rfl, rfl, rfl, rfl, rfl⟩ rfl rfl rfl rfl rfl (by kernel_rfl) Try.func4 (by kernel_rfl)
    (of_decide_eq_true (by kernel_rfl)) (by unfold Func.isWrapper; first | (rw [if_pos (by decide +kernel)]; kernel_rfl) | (rw [if_neg (by decide +kernel)]; exact ⟨rfl, rfl⟩))
    (fun os started H enc _ => lifted os started H enc)
#print axioms proved


end Go.Proofs.Ytjkjondfechogaa.backoffWorst
