/-
  The statement BackoffRisesSaid: for every input the law function BackoffRises returns true (of right plans, waits never fall and are from base to cap, a sum of one wait more is the sum and that wait, as a tick, and below 0 a wait is 0), and the arguments read afterwards as before.
  Conditions: none beyond the statement's own (the arguments are integers that fit their kinds).
-/
import Derived.Test.YtjkjondfechogaaBofArg
namespace Go.Proofs.Ytjkjondfechogaa.backoffRises
open Go.Proofs.Ytjkjondfechogaa.Bo
open Go.ChangeShapes Go.WideShapes Go.ChangeAt Go.RowKit Go.Sort

set_option maxHeartbeats 1000000 in
set_option maxRecDepth 100000 in
theorem walk_no (p : P) (h : ¬p.Good) (n : Int) (w : World) :
    Calls Try.prog 3 #[.agg #[.int .i64 p.r, .int .i64 p.b, .int .i64 p.f, .int .i64 p.c], .int .u16 n] w fun e w' => e = .returned (.bool true) ∧ Below w.heap.size w w' := by
  have HG := Lib.hid (rgood_is p (goodB_no h))
  clear h
  have HB0 := Lib.hid (Box.new w 23 p.cells)
  unfold P.cells at HB0
  go_enter Try.func3, Try.ntmps3
  go_wp2_with (first
    | (go_at_call 5; (with_reducible refine (awake_any _).mono ?_); rintro e w1 ⟨rfl, hb⟩; have H1 := Lib.hid hb; clear hb; obtain ⟨_, _, _, _⟩ := own_cells (p := p) H1.out)
    | (go_at_call 6; (with_reducible refine (HG.out _).mono ?_); rintro e w2 ⟨rfl, hm⟩; have H2 := Lib.hid hm; clear hm))
  go_ret
  exact ⟨rfl, (below_own H1.out).trans (H2.out.below.mono (below_own H1.out).size)⟩
set_option maxHeartbeats 1000000 in
set_option maxRecDepth 100000 in
theorem walk_yes (p : P) (h : p.Good) (n : Int) (h0 : 0 ≤ n) (h1 : n ≤ 65535) (w : World) :
    Calls Try.prog 3 #[.agg #[.int .i64 p.r, .int .i64 p.b, .int .i64 p.f, .int .i64 p.c], .int .u16 n] w fun e w' => e = .returned (.bool true) ∧ Below w.heap.size w w' := by
  have HG := Lib.hid (rgood_is p (goodB_yes h))
  have hW : ∀ m, 0 ≤ m → m ≤ 65536 → ∀ w, Calls Try.prog 7 #[.agg #[.int .i64 p.r, .int .i64 p.b, .int .i64 p.f, .int .i64 p.c], .int .i64 m] w fun e w' => e = .returned (.int .i64 (wait p m.toNat)) ∧ Made w w' := fun m hm hm' w => wait_any p h m hm (by omega) w
  have hT : ∀ m, 0 ≤ m → m ≤ 65536 → ∀ w, Calls Try.prog 8 #[.agg #[.int .i64 p.r, .int .i64 p.b, .int .i64 p.f, .int .i64 p.c], .int .i64 m] w fun e w' => e = .returned (.int .i64 (total p m.toNat)) ∧ Made w w' := fun m hm hm' w => total_any p h m (by omega) (by omega) w
  have hN : ∀ w, Calls Try.prog 7 #[.agg #[.int .i64 p.r, .int .i64 p.b, .int .i64 p.f, .int .i64 p.c], .int .i64 (-1)] w fun e w' => e = .returned (.int .i64 0) ∧ Made w w' := fun w => wait_neg p h (-1) (by omega) w
  have en : (n + 1).toNat = n.toNat + 1 := by omega
  have e1 : ¬wait p (n + 1).toNat < wait p n.toNat := by rw [en]; have := wait_up h n.toNat; omega
  have e2 : ¬wait p n.toNat < p.b := by have := wait_in h n.toNat; omega
  have e3 : ¬p.c < wait p (n + 1).toNat := by have := wait_in h (n + 1).toNat; omega
  have HE : Hid (total p (n + 1).toNat = min (total p n.toNat + wait p n.toNat) 1099511627776) := by rw [en]; exact total_next h _
  have b1 := total_in p n.toNat
  have b2 := wait_pos h n.toNat
  have hwn : IntKind.i64.wrap n = n := by rw [IntKind.wrap_i64]; omega
  have hwm : IntKind.i64.wrap (n + 1) = n + 1 := by rw [IntKind.wrap_i64]; omega
  clear en
  have HW := Lib.hid hW; have HT := Lib.hid hT; have HN := Lib.hid hN
  have mixed : Try.prog.follows .mixedOrders = true := by kernel_rfl
  clear h hW hT hN
  go_enter Try.func3, Try.ntmps3
  go_wp2_with (first
    | (go_at_call 5; (with_reducible refine (awake_any _).mono ?_); rintro e w1 ⟨rfl, hb⟩; have H1 := Lib.hid hb; clear hb; obtain ⟨_, _, _, _⟩ := own_cells (p := p) H1.out)
    | (go_at_call 6; (with_reducible refine (HG.out _).mono ?_); rintro e w2 ⟨rfl, hm⟩; have H2 := Lib.hid hm; clear hm))
  have HX := Lib.hid (own_then (p := p) H1.out H2.out)
  clear H1 H2 HG
  obtain ⟨k0, k1, k2, k3⟩ := Pall HX.out.1
  go_quiet_grown ((go_at_call 7; exact Calls.grown_of (HW.out _ (by omega) (by omega) _)))
  have HY := Lib.hid (then_made HX.out ⟨nq, osq, rfl⟩)
  clear HX k0 k1 k2 k3 HW
  generalize grow (w2.drewN nq) osq = w3 at HY ⊢
  have k0 := Pc0 HY.out.1; have k1 := Pc1 HY.out.1; have k2 := Pc2 HY.out.1; have k3 := Pc3 HY.out.1
  go_wp2
  clear k0 k1 k2 k3
  obtain ⟨k0, k1, k2, k3⟩ := Pall HY.out.1
  go_quiet_grown ((go_at_call 8; exact Calls.grown_of (HT.out _ (by omega) (by omega) _)))
  have HZ := Lib.hid (then_made HY.out ⟨nq, osq, rfl⟩)
  clear HY k0 k1 k2 k3 HT
  generalize grow (w3.drewN nq) osq = w4 at HZ ⊢
  have k0 := Pc0 HZ.out.1; have k1 := Pc1 HZ.out.1; have k2 := Pc2 HZ.out.1; have k3 := Pc3 HZ.out.1
  go_wp2_with (go_at_call 7; (with_reducible refine (HN.out _).mono ?_); rintro e w5 ⟨rfl, hm⟩; have H5 := Lib.hid hm; clear hm)
  all_goals
    first
      | (exfalso; have := HE.out; omega)
      | (go_ret; exact ⟨rfl, (then_made HZ.out H5.out).2⟩)
theorem walk (p : P) (n : Int) (hn : 0 ≤ n ∧ n ≤ 65535) (w : World) :
    Calls Try.prog 3 #[.agg #[.int .i64 p.r, .int .i64 p.b, .int .i64 p.f, .int .i64 p.c], .int .u16 n] w fun e w' => e = .returned (.bool true) ∧ Below w.heap.size w w' := by
  by_cases h : p.Good
  · exact walk_yes p h n hn.1 hn.2 w
  · exact walk_no p h n w

set_option maxRecDepth 100000 in
theorem lifted (os : Os) (started : os.Started) (H : Type) (enc : TypeId × Value → H) :
    ReturnsInHanded {} Try.checked os 3 .any (Rows.backoffRisesSpec.pre6 enc Try.prog Try.f3 Rows.backoffRisesRow.domain false) (Rows.backoffRisesSpec.post enc Try.prog Try.f3 false true false false) := by
  refine returnsInHanded_of_change_sized (C := Try.checked) own started (by kernel_rfl) Try.func3
    (ChangeSpec.witness6 (enc := enc) (C := Try.checked) false ⟨#[], #[.agg #[.int .i64 0, .int .i64 0, .int .i64 0, .int .i64 0], .int .u16 0], []⟩ 8 (by kernel_rfl) (by kernel_rfl) (by kernel_rfl) (by kernel_rfl)) ?_
  intro W base args ds gs before hval0 hW _ _ _
  have hval : ∀ (j : Nat) t v, Try.f3.params[j]? = some t → args[j]? = some v → Value.okWide Try.prog W .any base t v := hval0
  have hW' := hW
  obtain ⟨p, q, hA0, hV, rfl, _, _⟩ := hW
  have hA : DataW.TrodAll enc Try.prog W 0 (fun _ => true) true Try.f3.params.toList args.toList ds p := hA0
  rw [Try.params3] at hA hval
  obtain ⟨rfl, rfl⟩ := trodVars_none hV
  obtain ⟨v0, vs0, d0, ds0, p0, q0, hargs, rfl, rfl, h0, r0⟩ := trodAll_cons hA
  obtain ⟨v1, vs1, d1, ds1, p1, q1, rfl, rfl, rfl, h1, r1⟩ := trodAll_cons r0
  obtain ⟨rfl, rfl, rfl⟩ := trodAll_nil r1
  obtain rfl : args = #[v0, v1] := by cases args; simp_all
  obtain ⟨a0, e0, w0⟩ := arg_plan (hval 0 23 v0 rfl rfl) h0
  obtain ⟨a1, rfl, rfl, rfl, w1⟩ := open_int Try.underlying24 (hval 1 24 v1 rfl rfl) h1
  clear hA0 hval0
  simp only [List.append_nil] at hW'
  have hlt0 : ∀ x ∈ p0, x.block < W.heap.size := fun x hx => by simpa using hW'.lt x (by simp [hx])
  subst e0
  refine (walk a0 a1 (fits w1 rfl rfl) W).mono fun e W' ⟨he, bel⟩ => ?_
  subst he
  exact ⟨_, rfl, _, _, _, [], _, [], hW', trodAll_mk1 (shut_bool Try.underlying4 _), (trodAll_cons_mk (Below.trod laidOut (by kernel_rfl) (of_decide_eq_true (by kernel_rfl)) h0 bel hlt0) (trodAll_cons_mk (shut_int Try.underlying24 w1) trodAll_mk0)), rfl, bel.frame _, fun h => by cases h⟩

/-- the statement -/
theorem proved : Rows.BackoffRisesSaid :=
  OpenClaim.holds_of_wide 3 Try.f3 rfl rfl rfl rfl rfl rfl rfl ⟨rfl, rfl, rfl, rfl, rfl⟩ rfl rfl rfl rfl rfl (by kernel_rfl) Try.func3 (by kernel_rfl)
    (of_decide_eq_true (by kernel_rfl)) (by unfold Func.isWrapper; first | (rw [if_pos (by decide +kernel)]; kernel_rfl) | (rw [if_neg (by decide +kernel)]; exact ⟨rfl, rfl⟩))
    (fun os started H enc _ => lifted os started H enc)
#print axioms proved


end Go.Proofs.Ytjkjondfechogaa.backoffRises
