/-
  The statement BreakerTripsSaid: for every input the law function BreakerTrips returns true (closed, a breaker opens behind just so many failures one behind the other, and is half-open just so many ticks later), and the arguments read afterwards as before.
  Conditions: none beyond the statement's own (the arguments are integers that fit their kinds).
-/
import Derived.Test.YtndpdciehnndoaaBrkArg
namespace Go.Proofs.Ytndpdciehnndoaa.breakerTrips
open Go.Proofs.Ytndpdciehnndoaa.Bk
open Go.ChangeShapes Go.WideShapes Go.ChangeAt Go.RowKit

/-- a breaker behind k failures of n at a tick -/
def stF (n c now : Int) (k : Nat) : S := if (k : Int) < n then ⟨n, c, 1, false, k, 0, 0⟩ else ⟨n, c, 1, true, n, now + c, 0⟩
theorem stF_step {n c now : Int} {k : Nat} (h : (k : Int) < n) (hc : 0 ≤ c) (hn : 0 ≤ now) (hs : now + c ≤ 1099511627776) : done (stF n c now k) now false = stF n c now (k + 1) := by
  have ha : addT now c = now + c := by unfold addT; rw [ofT_id hn (by omega), ofT_id hc (by omega), ofT_id (by omega) hs]
  unfold stF
  rw [if_pos h]
  by_cases e : (k : Int) + 1 = n
  · rw [if_neg (by omega)]
    show (if (k : Int) + 1 = n then opened ⟨n, c, 1, false, (k : Int) + 1, 0, 0⟩ now else _) = _
    rw [if_pos e, e]
    unfold opened
    simp only [ha]
  · rw [if_pos (by omega)]
    show (if (k : Int) + 1 = n then _ else (⟨n, c, 1, false, (k : Int) + 1, 0, 0⟩ : S)) = _
    rw [if_neg e]
    rfl
def stE (n c now ou : Int) : S := ⟨n, c, 1, true, n, now + c, ou⟩
theorem stF_end (n c now : Int) (k : Nat) (h : (k : Int) = n) : stF n c now k = stE n c now 0 := by unfold stF stE; rw [if_neg (by omega)]
theorem stF_closed {n c now : Int} {k : Nat} (h : (k : Int) < n) : kind (stF n c now k) now = 0 := by unfold stF; rw [if_pos h]; rfl
set_option maxHeartbeats 1000000 in
set_option maxRecDepth 100000 in
theorem walk (a0 a1 a2 : Int) (h0 : 0 ≤ a0 ∧ a0 ≤ 255) (h1 : 0 ≤ a1 ∧ a1 ≤ 65535) (h2 : 0 ≤ a2 ∧ a2 ≤ 4294967295) (w : World) :
    Calls Try.prog 5 #[.int .u8 a0, .int .u16 a1, .int .u32 a2] w fun e w' => e = .returned (.bool true) ∧ Below w.heap.size w w' := by
  obtain ⟨x1, y1⟩ := h0; obtain ⟨x2, y2⟩ := h1; obtain ⟨x3, y3⟩ := h2
  obtain ⟨m, hm⟩ : ∃ m : Nat, (m : Int) = 1 + a0 := ⟨(1 + a0).toNat, by omega⟩
  have hN : ∀ w, Calls Try.prog 7 #[.int .i64 (1 + a0), .int .i64 a1, .int .i64 1] w fun e w' => e = .returned (.pointer (some ⟨w.heap.size, 0, none⟩)) ∧ Brk w' w.heap.size (stF (1 + a0) a1 a2 0) ∧ Below w.heap.size w w' :=
    fun w => by
      have := new_any w (t := 1 + a0) (c := a1) (p := 1) (by omega) (by omega) (by omega)
      have e : new (1 + a0) a1 1 = stF (1 + a0) a1 a2 0 := by unfold stF; rw [if_pos (by omega)]; rfl
      rw [e] at this
      exact this
  have hS : ∀ w g k, k < m → Brk w g (stF (1 + a0) a1 a2 k) → Calls Try.prog 8 #[.pointer (some ⟨g, 0, none⟩), .int .i64 a2] w fun e w' => e = .returned (.int .i64 0) ∧ w = w' :=
    fun w g k hk h => state_is h a2 (stF_closed (by omega))
  have hD : ∀ w g k, k < m → Brk w g (stF (1 + a0) a1 a2 k) → Calls Try.prog 14 #[.pointer (some ⟨g, 0, none⟩), .int .i64 a2, .bool false] w fun e w' => e = .returned (.tuple #[]) ∧ Aft w g (stF (1 + a0) a1 a2 (k + 1)) w' :=
    fun w g k hk h => by
      have := done_any h a2 false
      rw [stF_step (by omega) x2 x3 (by omega)] at this
      exact this
  have hU : ∀ w g, Brk w g (stE (1 + a0) a1 a2 0) → Calls Try.prog 18 #[.pointer (some ⟨g, 0, none⟩)] w fun e w' => e = .returned (.int .i64 (a2 + a1)) ∧ w = w' := fun w g h => until_any h
  have hH : ∀ w g, Brk w g (stE (1 + a0) a1 a2 0) → Calls Try.prog 8 #[.pointer (some ⟨g, 0, none⟩), .int .i64 (a2 + a1)] w fun e w' => e = .returned (.int .i64 2) ∧ w = w' :=
    fun w g h => state_is h _ (by unfold kind stE; rw [ofT_id (by omega) (by omega)]; simp)
  have hO : 0 < a1 → ∀ w g, Brk w g (stE (1 + a0) a1 a2 0) → Calls Try.prog 8 #[.pointer (some ⟨g, 0, none⟩), .int .i64 (a2 + a1 - 1)] w fun e w' => e = .returned (.int .i64 1) ∧ w = w' :=
    fun hp w g h => state_is h _ (by unfold kind stE; rw [ofT_id (by omega) (by omega)]; simp; omega)
  have hk2 : ∀ ou, kind (stE (1 + a0) a1 a2 ou) (a2 + a1) = 2 := fun ou => by unfold kind stE; rw [ofT_id (by omega) (by omega)]; simp
  have hA : ∀ w g, Brk w g (stE (1 + a0) a1 a2 0) → Calls Try.prog 13 #[.pointer (some ⟨g, 0, none⟩), .int .i64 (a2 + a1)] w fun e w' => e = .returned (.bool true) ∧ Aft w g (stE (1 + a0) a1 a2 1) w' :=
    fun w g h => by
      have := send_any h (a2 + a1)
      unfold may send at this
      rw [hk2] at this
      exact this
  have hB : ∀ w g, Brk w g (stE (1 + a0) a1 a2 1) → Calls Try.prog 13 #[.pointer (some ⟨g, 0, none⟩), .int .i64 (a2 + a1)] w fun e w' => e = .returned (.bool false) ∧ Aft w g (stE (1 + a0) a1 a2 1) w' :=
    fun w g h => by
      have := send_any h (a2 + a1)
      unfold may send at this
      rw [hk2] at this
      exact this
  have hE := stF_end (1 + a0) a1 a2 m hm
  have HN := Lib.hid hN; have HS := Lib.hid hS; have HD := Lib.hid hD; have HU := Lib.hid hU; have HH := Lib.hid hH; have HO := Lib.hid hO; have HA := Lib.hid hA; have HB := Lib.hid hB; have HE := Lib.hid hE
  clear hN hS hD hU hH hO hA hB hE hk2
  go_enter Try.func5, Try.ntmps5
  go_wp2_with (first
    | (go_at_call 6; (with_reducible refine (awake_any _).mono ?_); rintro e w0 ⟨rfl, hb0⟩; have H0 := Lib.hid hb0; clear hb0)
    | (go_at_call 7; (with_reducible refine (HN.out _).mono ?_); rintro e w1 ⟨rfl, hq1, hb1⟩; have H1 := Lib.hid (And.intro hq1 hb1); clear hq1 hb1))
  have hT : w.heap.size ≤ w0.heap.size ∧ Below w.heap.size w w1 ∧ Brk w1 w0.heap.size (stF (1 + a0) a1 a2 0) := ⟨H0.out.size, H0.out.trans (H1.out.2.mono H0.out.size), H1.out.1⟩
  generalize w0.heap.size = g at hT ⊢
  have HT := Lib.hid hT
  clear hT H0 H1
  go_loopw [9] (fun vi wr => ∃ k : Nat, vi = .int .i64 (k : Int) ∧ k ≤ m ∧ Hid (w.heap.size ≤ g ∧ Below w.heap.size w wr ∧ Brk wr g (stF (1 + a0) a1 a2 k))) (fun vi _ => m - (intOf vi).toNat)
  case atStart => exact ⟨0, rfl, Nat.zero_le _, HT.out⟩
  case round =>
    obtain ⟨k, rfl, hk, HI⟩ := hrel
    by_cases hlt : k < m
    · have HS1 := Lib.hid (HS.out wr g k hlt HI.out.2.2)
      have HD1 := Lib.hid (HD.out wr g k hlt HI.out.2.2)
      go_wp2_with (first
        | (go_at_call 8; (with_reducible refine (HS1.out).mono ?_); rintro e w2 ⟨rfl, rfl⟩)
        | (go_at_call 14; (with_reducible refine (HD1.out).mono ?_); rintro e w3 ⟨rfl, hq3⟩; have H3 := Lib.hid hq3; clear hq3))
      go_roundw
      case rel => exact ⟨k + 1, by go_num, by omega, HI.out.1, HI.out.2.1.trans (H3.out.below HI.out.1 HI.out.2.1.size), H3.out.1⟩
      case measure => simp [intOf]; omega
    · obtain rfl : k = m := by omega
      have hq := HI.out.2.2
      rw [HE.out] at hq
      have HQ := Lib.hid hq
      have HAll := Lib.hid HI.out
      clear hq HI HT HS HD hk hlt
      by_cases hz : a1 = 0
      · have hb : (a1 == 0) = true := by simpa using hz
        have HZ := Lib.hid hz
        clear hz
        go_wp2_with (first
          | (go_at_call 18; (with_reducible refine (HU.out _ _ HQ.out).mono ?_); rintro e w2 ⟨rfl, rfl⟩)
          | (go_at_call 8; (with_reducible refine (HH.out _ _ HQ.out).mono ?_); rintro e w2 ⟨rfl, rfl⟩)
          | (go_at_call 13; (with_reducible refine (HA.out _ _ HQ.out).mono ?_); rintro e w3 ⟨rfl, hq3⟩; have H3 := Lib.hid hq3; have HQ3 := Lib.hid hq3.1; clear hq3)
          | (go_at_call 13; (with_reducible refine (HB.out _ _ HQ3.out).mono ?_); rintro e w4 ⟨rfl, hq4⟩; have H4 := Lib.hid hq4; clear hq4))
        go_ret
        exact ⟨rfl, (HAll.out.2.1.trans (H3.out.below HAll.out.1 HAll.out.2.1.size)).trans (H4.out.below HAll.out.1 (Nat.le_trans HAll.out.2.1.size H3.out.2.size))⟩
      · have hb : (a1 == 0) = false := by simpa using hz
        have HO1 := Lib.hid (HO.out (by omega))
        clear hz HO
        go_wp2_with (first
          | (go_at_call 18; (with_reducible refine (HU.out _ _ HQ.out).mono ?_); rintro e w2 ⟨rfl, rfl⟩)
          | (go_at_call 8; (with_reducible refine (HH.out _ _ HQ.out).mono ?_); rintro e w2 ⟨rfl, rfl⟩)
          | (go_at_call 8; (with_reducible refine (HO1.out _ _ HQ.out).mono ?_); rintro e w2 ⟨rfl, rfl⟩)
          | (go_at_call 13; (with_reducible refine (HA.out _ _ HQ.out).mono ?_); rintro e w3 ⟨rfl, hq3⟩; have H3 := Lib.hid hq3; have HQ3 := Lib.hid hq3.1; clear hq3)
          | (go_at_call 13; (with_reducible refine (HB.out _ _ HQ3.out).mono ?_); rintro e w4 ⟨rfl, hq4⟩; have H4 := Lib.hid hq4; clear hq4))
        go_ret
        exact ⟨rfl, (HAll.out.2.1.trans (H3.out.below HAll.out.1 HAll.out.2.1.size)).trans (H4.out.below HAll.out.1 (Nat.le_trans HAll.out.2.1.size H3.out.2.size))⟩

set_option maxRecDepth 100000 in
theorem lifted (os : Os) (started : os.Started) (H : Type) (enc : TypeId × Value → H) :
    ReturnsInHanded {} Try.checked os 5 .any (Rows.breakerTripsSpec.pre6 enc Try.prog Try.f5 Rows.breakerTripsRow.domain false) (Rows.breakerTripsSpec.post enc Try.prog Try.f5 false true false false) := by
  refine returnsInHanded_of_change_sized (C := Try.checked) own started (by kernel_rfl) Try.func5
    (ChangeSpec.witness6 (enc := enc) (C := Try.checked) false ⟨#[], #[.int .u8 0, .int .u16 0, .int .u32 0], []⟩ 8 (by kernel_rfl) (by kernel_rfl) (by kernel_rfl) (by kernel_rfl)) ?_
  intro W base args ds gs before hval0 hW _ _ _
  have hval : ∀ (j : Nat) t v, Try.f5.params[j]? = some t → args[j]? = some v → Value.okWide Try.prog W .any base t v := hval0
  have hW' := hW
  obtain ⟨p, q, hA0, hV, rfl, _, _⟩ := hW
  have hA : DataW.TrodAll enc Try.prog W 0 (fun _ => true) true Try.f5.params.toList args.toList ds p := hA0
  rw [Try.params5] at hA hval
  obtain ⟨rfl, rfl⟩ := trodVars_none hV
  obtain ⟨v0, vs0, d0, ds0, p0, q0, hargs, rfl, rfl, h0, r0⟩ := trodAll_cons hA
  obtain ⟨v1, vs1, d1, ds1, p1, q1, rfl, rfl, rfl, h1, r1⟩ := trodAll_cons r0
  obtain ⟨v2, vs2, d2, ds2, p2, q2, rfl, rfl, rfl, h2, r2⟩ := trodAll_cons r1
  obtain ⟨rfl, rfl, rfl⟩ := trodAll_nil r2
  obtain rfl : args = #[v0, v1, v2] := by cases args; simp_all
  obtain ⟨a0, rfl, rfl, rfl, w0⟩ := open_int Try.underlying5 (hval 0 5 v0 rfl rfl) h0
  obtain ⟨a1, rfl, rfl, rfl, w1⟩ := open_int Try.underlying43 (hval 1 43 v1 rfl rfl) h1
  obtain ⟨a2, rfl, rfl, rfl, w2⟩ := open_int Try.underlying44 (hval 2 44 v2 rfl rfl) h2
  clear hA0 hval0
  simp only [List.append_nil] at hW'
  obtain ⟨n2, rfl⟩ : ∃ n : Nat, a2 = (n : Int) := ⟨a2.toNat, by obtain ⟨h, _⟩ : 0 ≤ a2 ∧ a2 ≤ 4294967295 := fits w2 rfl rfl; omega⟩
  refine (walk a0 a1 n2 (fits w0 rfl rfl) (fits w1 rfl rfl) (fits w2 rfl rfl) W).mono fun e W' ⟨he, bel⟩ => ?_
  subst he
  exact ⟨_, rfl, _, _, _, [], _, [], hW', trodAll_mk1 (shut_bool Try.underlying4 _), (trodAll_cons_mk (shut_int Try.underlying5 w0) (trodAll_cons_mk (shut_int Try.underlying43 w1) (trodAll_cons_mk (shut_int Try.underlying44 w2) trodAll_mk0))), rfl, bel.frame _, fun h => by cases h⟩

/-- the statement -/
theorem proved : Rows.BreakerTripsSaid :=
  OpenClaim.holds_of_wide 5 Try.f5 rfl rfl rfl rfl rfl rfl rfl ⟨rfl, rfl, rfl, rfl, rfl⟩ rfl rfl rfl rfl rfl (by kernel_rfl) Try.func5 (by kernel_rfl)
    (of_decide_eq_true (by kernel_rfl)) (by unfold Func.isWrapper; first | (rw [if_pos (by decide +kernel)]; kernel_rfl) | (rw [if_neg (by decide +kernel)]; exact ⟨rfl, rfl⟩))
    (fun os started H enc _ => lifted os started H enc)
#print axioms proved

end Go.Proofs.Ytndpdciehnndoaa.breakerTrips
