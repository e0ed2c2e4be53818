/-
  The statement BreakerHoldsSaid: for every input the law function BreakerHolds returns true (while a breaker is open nothing goes; half-open there are never more probes out than there may be), and the arguments read afterwards as before.
  Conditions: none beyond the statement's own.
-/
import Derived.Test.YtndpdciehnndoaaBrkArg
import Derived.Deep.CutBlock
import Derived.Deep.DeepCutAuto
namespace Go.Proofs.Ytndpdciehnndoaa.breakerHolds
open Go.Proofs.Ytndpdciehnndoaa.Bk
open Go.ChangeShapes Go.WideShapes Go.ChangeAt Go.RowKit

/-- where the law's loop stands -/
structure At (w wr : World) (g : Nat) (s : S) : Prop where
  le : w.heap.size ≤ g
  bel : Below w.heap.size w wr
  brk : Brk wr g s
theorem At.on {w wr w' : World} {g : Nat} {s s' : S} (h : At w wr g s) (k : Aft wr g s' w') : At w w' g s' := ⟨h.le, h.bel.trans (k.below h.le h.bel.size), k.1⟩
set_option maxHeartbeats 4000000 in
set_option maxRecDepth 100000 in
theorem walk (a0 a1 a2 : Int) (h0 : 0 ≤ a0 ∧ a0 ≤ 255) (h1 : 0 ≤ a1 ∧ a1 ≤ 255) (h2 : 0 ≤ a2 ∧ a2 ≤ 255) (A0 : Option Addr) (n ca : Nat) (f : Nat → Nat → Int) (w : World) (hf : ∀ i, i < n → IntsAt w w.heap.size A0 2 i (f i)) :
    Calls Try.prog 4 #[.int .u8 a0, .int .u8 a1, .int .u8 a2, .slice A0 n ca] w fun e w' => e = .returned (.bool true) ∧ Below w.heap.size w w' := by
  obtain ⟨x1, y1⟩ := h0; obtain ⟨x2, y2⟩ := h1; obtain ⟨x3, y3⟩ := h2
  by_cases h60 : 60 < n
  · clear hf
    go_enter Try.func4, Try.ntmps4
    go_wp2_with (go_at_call 6; (with_reducible refine (awake_any _).mono ?_); rintro e w0 ⟨rfl, hb0⟩)
    go_ret
    exact ⟨rfl, hb0⟩
  have hN : ∀ w, Calls Try.prog 7 #[.int .i64 (1 + a0 % 9), .int .i64 a1, .int .i64 (1 + a2 % 9)] w fun e w' => e = .returned (.pointer (some ⟨w.heap.size, 0, none⟩)) ∧ Brk w' w.heap.size (new (1 + a0 % 9) a1 (1 + a2 % 9)) ∧ Below w.heap.size w w' :=
    fun w => new_any w (by omega) (by omega) (by omega)
  have HN := Lib.hid hN
  have HF := Lib.hid hf
  clear hN hf
  go_enter Try.func4, Try.ntmps4
  go_wp2_with (first
    | (go_at_call 6; (with_reducible refine (awake_any _).mono ?_); rintro e w0 ⟨rfl, hb0⟩; have H0 := Lib.hid hb0; clear hb0)
    | (go_at_call 7; (with_reducible refine (HN.out _).mono ?_); rintro e w1 ⟨rfl, hq1, hb1⟩; have H1 := Lib.hid (And.intro hq1 hb1); clear hq1 hb1))
  have hT : At w w1 w0.heap.size (new (1 + a0 % 9) a1 (1 + a2 % 9)) := ⟨H0.out.size, H0.out.trans (H1.out.2.mono H0.out.size), H1.out.1⟩
  generalize w0.heap.size = g at hT ⊢
  have HT := Lib.hid hT
  clear hT H0 H1
  obtain ⟨np, hnp⟩ : ∃ np, np = 1 + a2 % 9 := ⟨_, rfl⟩
  rw [← hnp] at HT ⊢
  have HNP := Lib.hid hnp
  clear hnp
  go_loopw [11, 12] (fun vn vi wr => ∃ (k : Nat) (s : S) (now : Int), vi = .int .i64 (k : Int) ∧ k ≤ n ∧ vn = .int .i64 now ∧ 0 ≤ now ∧ now ≤ (k : Int) * 1000000 ∧ s.probes = np ∧ Hid (At w wr g s)) (fun _ vi _ => n - (intOf vi).toNat)
  case atStart => exact ⟨0, _, 0, rfl, Nat.zero_le _, rfl, Int.le_refl _, by omega, rfl, HT.out⟩
  case round =>
    obtain ⟨k, s, now, rfl, hk, rfl, hn0, hn1, hpr, HI⟩ := hrel
    by_cases hkn : k < n
    · have hat := HF.out k hkn
      obtain ⟨b, o, rfl⟩ : ∃ b o, A0 = some ⟨b, o, none⟩ := by obtain ⟨b, o, e, _⟩ := hat; exact ⟨b, o, e⟩
      have c0 := (hat.below HI.out.bel).get 0 (by omega)
      have c1 := (hat.below HI.out.bel).get 1 (by omega)
      rw [Nat.add_zero] at c0
      generalize f k 0 = x at c0
      generalize f k 1 = d at c1
      clear hat
      by_cases d0 : d < 0
      · go_wp2
        go_ret
        exact ⟨rfl, HI.out.bel⟩
      by_cases d1 : 1000000 < d
      · go_wp2
        go_ret
        exact ⟨rfl, HI.out.bel⟩
      have HS := Lib.hid (state_any HI.out.brk (now + d))
      have hn2 : 0 ≤ now + d := by omega
      have hn3 : now + d ≤ ((k : Int) + 1) * 1000000 := by omega
      go_upto_block 2 with (go_at_call 8; refine HS.out.mono ?_; rintro e w2 ⟨rfl, rfl⟩)
      obtain ⟨kd, hkd⟩ : ∃ kd, kd = kind s (now + d) := ⟨_, rfl⟩
      have hsend := send_any HI.out.brk (now + d)
      have hmay : may s (now + d) = true → kd ≠ 1 := fun h => by
        rw [hkd]
        simp only [may, decide_eq_true_eq] at h
        omega
      rw [← hkd]
      have HSend := Lib.hid hsend
      have HDone := Lib.hid (done_any HI.out.brk (now + d))
      have HLost := Lib.hid (lost_any HI.out.brk (now + d))
      have HPD := Lib.hid fun b => (same_done s (now + d) b).2.2.trans hpr
      have HPS := Lib.hid ((same_send s (now + d)).2.2.trans hpr)
      have HPL := Lib.hid ((same_lost s (now + d)).2.2.trans hpr)
      have HPR := Lib.hid hpr
      clear hsend hkd hpr HS
      go_cut [13] (fun vw wc => vw = .int .i64 kd ∧ ∃ s' : S, Hid (At w wc g s' ∧ s'.probes = np))
      case first =>
        generalize may s (now + d) = mb at HSend hmay
        by_cases k0 : x = 0
        · have e0 : (x == 0) = true := by simp [k0]
          clear k0
          cases mb with
          | true =>
            have ek : (kd == 1) = false := by simpa using hmay rfl
            as_aux_lemma =>
              go_wp2_with (first
            | (go_at_call 13; (with_reducible refine HSend.out.mono ?_); rintro e w3 ⟨rfl, hq3⟩; have H3 := Lib.hid hq3; clear hq3)
            | (go_at_call 14; (with_reducible refine (HDone.out _).mono ?_); rintro e w3 ⟨rfl, hq3⟩; have H3 := Lib.hid hq3; clear hq3)
            | (go_at_call 16; (with_reducible refine HLost.out.mono ?_); rintro e w3 ⟨rfl, hq3⟩; have H3 := Lib.hid hq3; clear hq3))
              go_meet
              exact ⟨rfl, _, Lib.hid ⟨HI.out.on H3.out, HPS.out⟩⟩
          | false =>
            as_aux_lemma =>
              go_wp2_with (first
            | (go_at_call 13; (with_reducible refine HSend.out.mono ?_); rintro e w3 ⟨rfl, hq3⟩; have H3 := Lib.hid hq3; clear hq3)
            | (go_at_call 14; (with_reducible refine (HDone.out _).mono ?_); rintro e w3 ⟨rfl, hq3⟩; have H3 := Lib.hid hq3; clear hq3)
            | (go_at_call 16; (with_reducible refine HLost.out.mono ?_); rintro e w3 ⟨rfl, hq3⟩; have H3 := Lib.hid hq3; clear hq3))
              go_meet
              exact ⟨rfl, _, Lib.hid ⟨HI.out.on H3.out, HPS.out⟩⟩
        have e0 : (x == 0) = false := by simp [k0]
        by_cases k1 : x = 1
        · have e1 : (x == 1) = true := by simp [k1]
          clear k0 k1
          cases mb with
          | true =>
            have ek : (kd == 1) = false := by simpa using hmay rfl
            as_aux_lemma =>
              go_wp2_with (first
            | (go_at_call 13; (with_reducible refine HSend.out.mono ?_); rintro e w3 ⟨rfl, hq3⟩; have H3 := Lib.hid hq3; clear hq3)
            | (go_at_call 14; (with_reducible refine (HDone.out _).mono ?_); rintro e w3 ⟨rfl, hq3⟩; have H3 := Lib.hid hq3; clear hq3)
            | (go_at_call 16; (with_reducible refine HLost.out.mono ?_); rintro e w3 ⟨rfl, hq3⟩; have H3 := Lib.hid hq3; clear hq3))
              go_meet
              exact ⟨rfl, _, Lib.hid ⟨HI.out.on H3.out, HPS.out⟩⟩
          | false =>
            as_aux_lemma =>
              go_wp2_with (first
            | (go_at_call 13; (with_reducible refine HSend.out.mono ?_); rintro e w3 ⟨rfl, hq3⟩; have H3 := Lib.hid hq3; clear hq3)
            | (go_at_call 14; (with_reducible refine (HDone.out _).mono ?_); rintro e w3 ⟨rfl, hq3⟩; have H3 := Lib.hid hq3; clear hq3)
            | (go_at_call 16; (with_reducible refine HLost.out.mono ?_); rintro e w3 ⟨rfl, hq3⟩; have H3 := Lib.hid hq3; clear hq3))
              go_meet
              exact ⟨rfl, _, Lib.hid ⟨HI.out.on H3.out, HPS.out⟩⟩
        have e1 : (x == 1) = false := by simp [k1]
        clear hmay HSend
        by_cases k2 : x = 2
        · have e2 : (x == 2) = true := by simp [k2]
          clear k0 k1 k2
          as_aux_lemma =>
            go_wp2_with (first
            | (go_at_call 13; (with_reducible refine HSend.out.mono ?_); rintro e w3 ⟨rfl, hq3⟩; have H3 := Lib.hid hq3; clear hq3)
            | (go_at_call 14; (with_reducible refine (HDone.out _).mono ?_); rintro e w3 ⟨rfl, hq3⟩; have H3 := Lib.hid hq3; clear hq3)
            | (go_at_call 16; (with_reducible refine HLost.out.mono ?_); rintro e w3 ⟨rfl, hq3⟩; have H3 := Lib.hid hq3; clear hq3))
            go_meet
            exact ⟨rfl, _, Lib.hid ⟨HI.out.on H3.out, HPD.out _⟩⟩
        have e2 : (x == 2) = false := by simp [k2]
        by_cases k3 : x = 3
        · have e3 : (x == 3) = true := by simp [k3]
          clear k0 k1 k2 k3
          as_aux_lemma =>
            go_wp2_with (first
            | (go_at_call 13; (with_reducible refine HSend.out.mono ?_); rintro e w3 ⟨rfl, hq3⟩; have H3 := Lib.hid hq3; clear hq3)
            | (go_at_call 14; (with_reducible refine (HDone.out _).mono ?_); rintro e w3 ⟨rfl, hq3⟩; have H3 := Lib.hid hq3; clear hq3)
            | (go_at_call 16; (with_reducible refine HLost.out.mono ?_); rintro e w3 ⟨rfl, hq3⟩; have H3 := Lib.hid hq3; clear hq3))
            go_meet
            exact ⟨rfl, _, Lib.hid ⟨HI.out.on H3.out, HPD.out _⟩⟩
        have e3 : (x == 3) = false := by simp [k3]
        by_cases k4 : x = 4
        · have e4 : (x == 4) = true := by simp [k4]
          clear k0 k1 k2 k3 k4
          as_aux_lemma =>
            go_wp2_with (first
            | (go_at_call 13; (with_reducible refine HSend.out.mono ?_); rintro e w3 ⟨rfl, hq3⟩; have H3 := Lib.hid hq3; clear hq3)
            | (go_at_call 14; (with_reducible refine (HDone.out _).mono ?_); rintro e w3 ⟨rfl, hq3⟩; have H3 := Lib.hid hq3; clear hq3)
            | (go_at_call 16; (with_reducible refine HLost.out.mono ?_); rintro e w3 ⟨rfl, hq3⟩; have H3 := Lib.hid hq3; clear hq3))
            go_meet
            exact ⟨rfl, _, Lib.hid ⟨HI.out.on H3.out, HPL.out⟩⟩
        have e4 : (x == 4) = false := by simp [k4]
        clear k0 k1 k2 k3 k4
        as_aux_lemma =>
          go_wp2_with (fail)
          go_meet
          exact ⟨rfl, _, Lib.hid ⟨HI.out, HPR.out⟩⟩
      case rest =>
        obtain ⟨rfl, s', HI'⟩ := hcut
        have hou := HI'.out.1.brk.ok.ou
        have hno := HI'.out.1.brk.ok.none
        rw [HI'.out.2] at hou
        obtain ⟨u0, u1⟩ := hou
        have HO := Lib.hid (out_any HI'.out.1.brk)
        clear HSend HDone HLost HPD HPS HPL HPR hmay HI c0 c1
        by_cases hk0 : kind s' (now + d) = 0
        · have HS := Lib.hid (state_is HI'.out.1.brk (now + d) hk0)
          have ho := hno (kind_0 hk0)
          have eo : (s'.ou != 0) = false := by simp [ho]
          have eq' : ((0 : Int) == 0) = true := rfl
          clear hno hk0 ho
          generalize s'.ou = ou at HO u0 u1 eo
          go_wp2_with (first
            | (go_at_call 19; (with_reducible refine HO.out.mono ?_); rintro e w3 ⟨rfl, rfl⟩)
            | (go_at_call 8; (with_reducible refine HS.out.mono ?_); rintro e w3 ⟨rfl, rfl⟩))
          go_roundw
          case rel => exact ⟨k + 1, s', _, by go_num, by omega, rfl, hn2, by omega, HI'.out.2, Lib.hid HI'.out.1⟩
          case measure => simp [intOf]; omega
        · have HS := Lib.hid (state_any HI'.out.1.brk (now + d))
          have ek : (kind s' (now + d) == 0) = false := by simp [hk0]
          clear hno hk0
          generalize kind s' (now + d) = kk at HS ek
          generalize s'.ou = ou at HO u0 u1
          go_wp2_with (first
            | (go_at_call 19; (with_reducible refine HO.out.mono ?_); rintro e w3 ⟨rfl, rfl⟩)
            | (go_at_call 8; (with_reducible refine HS.out.mono ?_); rintro e w3 ⟨rfl, rfl⟩))
          go_roundw
          case rel => exact ⟨k + 1, s', _, by go_num, by omega, rfl, hn2, by omega, HI'.out.2, Lib.hid HI'.out.1⟩
          case measure => simp [intOf]; omega
    · obtain rfl : n = k := by omega
      go_wp2
      go_ret
      exact ⟨rfl, HI.out.bel⟩

set_option maxRecDepth 100000 in
theorem lifted (os : Os) (started : os.Started) (H : Type) (enc : TypeId × Value → H) :
    ReturnsInHanded {} Try.checked os 4 .any (Rows.breakerHoldsSpec.pre6 enc Try.prog Try.f4 Rows.breakerHoldsRow.domain false) (Rows.breakerHoldsSpec.post enc Try.prog Try.f4 false true false false) := by
  refine returnsInHanded_of_change_sized (C := Try.checked) own started (by kernel_rfl) Try.func4
    (ChangeSpec.witness6 (enc := enc) (C := Try.checked) false ⟨#[], #[.int .u8 0, .int .u8 0, .int .u8 0, .slice none 0 0], []⟩ 8 (by kernel_rfl) (by kernel_rfl) (by kernel_rfl) (by kernel_rfl)) ?_
  intro W base args ds gs before hval0 hW _ _ _
  have hval : ∀ (j : Nat) t v, Try.f4.params[j]? = some t → args[j]? = some v → Value.okWide Try.prog W .any base t v := hval0
  have hW' := hW
  obtain ⟨p, q, hA0, hV, rfl, _, _⟩ := hW
  have hA : DataW.TrodAll enc Try.prog W 0 (fun _ => true) true Try.f4.params.toList args.toList ds p := hA0
  rw [Try.params4] at hA hval
  obtain ⟨rfl, rfl⟩ := trodVars_none hV
  obtain ⟨v0, vs0, d0, ds0, p0, q0, hargs, rfl, rfl, h0, r0⟩ := trodAll_cons hA
  obtain ⟨v1, vs1, d1, ds1, p1, q1, rfl, rfl, rfl, h1, r1⟩ := trodAll_cons r0
  obtain ⟨v2, vs2, d2, ds2, p2, q2, rfl, rfl, rfl, h2, r2⟩ := trodAll_cons r1
  obtain ⟨v3, vs3, d3, ds3, p3, q3, rfl, rfl, rfl, h3, r3⟩ := trodAll_cons r2
  obtain ⟨rfl, rfl, rfl⟩ := trodAll_nil r3
  obtain rfl : args = #[v0, v1, v2, v3] := by cases args; simp_all
  obtain ⟨a0, rfl, rfl, rfl, w0⟩ := open_int Try.underlying5 (hval 0 5 v0 rfl rfl) h0
  obtain ⟨a1, rfl, rfl, rfl, w1⟩ := open_int Try.underlying5 (hval 1 5 v1 rfl rfl) h1
  obtain ⟨a2, rfl, rfl, rfl, w2⟩ := open_int Try.underlying5 (hval 2 5 v2 rfl rfl) h2
  obtain ⟨a3, len3, cap3, rfl⟩ := okWide_slice Try.underlying22 (hval 3 22 v3 rfl rfl)
  clear hA0 hval0
  simp only [List.append_nil, List.nil_append] at hW'
  have hlt3 : ∀ x ∈ p3, x.block < W.heap.size := fun x hx => by simpa using hW'.lt x (by simp [hx])
  obtain ⟨f3, hc3, hm3, hf3⟩ := arg_acts h3
  refine (walk a0 a1 a2 (fits w0 rfl rfl) (fits w1 rfl rfl) (fits w2 rfl rfl) a3 len3 cap3 f3 W hf3).mono fun e W' ⟨he, bel⟩ => ?_
  subst he
  exact ⟨_, rfl, _, _, _, [], _, [], hW', trodAll_mk1 (shut_bool Try.underlying4 _), (trodAll_cons_mk (shut_int Try.underlying5 w0) (trodAll_cons_mk (shut_int Try.underlying5 w1) (trodAll_cons_mk (shut_int Try.underlying5 w2) (trodAll_cons_mk (Below.trod laidOut (by kernel_rfl) (of_decide_eq_true (by kernel_rfl)) h3 bel hlt3) trodAll_mk0)))), rfl, bel.frame _, fun h => by cases h⟩

/-- the statement -/
theorem proved : Rows.BreakerHoldsSaid :=
  OpenClaim.holds_of_wide 4 Try.f4 rfl rfl rfl rfl rfl rfl rfl ⟨rfl, rfl, rfl, rfl, rfl⟩ rfl rfl rfl rfl rfl (by kernel_rfl) Try.func4 (by kernel_rfl)
    (of_decide_eq_true (by kernel_rfl)) (by unfold Func.isWrapper; first | (rw [if_pos (by decide +kernel)]; kernel_rfl) | (rw [if_neg (by decide +kernel)]; exact ⟨rfl, rfl⟩))
    (fun os started H enc _ => lifted os started H enc)
#print axioms proved

end Go.Proofs.Ytndpdciehnndoaa.breakerHolds
