/-
  The statement ReadyAgesSaid: for every input the law function ReadyAges returns true (an entry stands behind none that is put more than 255 times the ageing ticks later), and the arguments read afterwards as before.
  Conditions: none beyond the statement's own (the arguments are integers that fit their kinds).
-/
import Derived.Test.YtkfkjpabollaoaaRows
import Derived.Test.YtkfkjpabollaoaaRdyAwake
import Derived.WalkKit
import Derived.ProofKit
import Derived.OpenShut
namespace Go.Proofs.Ytkfkjpabollaoaa.readyAges
open Go.ChangeShapes Go.WideShapes Go.ChangeAt Go.RowKit

theorem own : ownKnob Try.prog.godebug = none := by kernel_rfl
theorem fits {k : IntKind} {a lo hi : Int} (h : (Lit.int k a).wf = true) (hl : k.min = lo) (hh : k.max = hi) : lo ≤ a ∧ a ≤ hi := by
  simp only [Lit.wf, Bool.and_eq_true, decide_eq_true_eq] at h
  omega
theorem ahead {a3 a4 a1 a2 : Int} {m : Nat} (h3 : 0 ≤ a3) (h4 : a4 ≤ 255) (h2 : 0 ≤ a2) : wtOf a4 m (a1 + 255 * (m : Int) + 1 + a2) < wtOf a3 m a1 := by
  have b0 : 0 ≤ a3 * (m : Int) := Int.mul_nonneg h3 (by omega)
  have b1 : a4 * (m : Int) ≤ 255 * (m : Int) := Int.mul_le_mul_of_nonneg_right h4 (by omega)
  unfold wtOf
  omega
set_option maxHeartbeats 1000000 in
set_option maxRecDepth 100000 in
theorem walk (a0 a1 a2 a3 a4 : Int) (h0 : 0 ≤ a0 ∧ a0 ≤ 65535) (h1 : 0 ≤ a1 ∧ a1 ≤ 4294967295) (h2 : 0 ≤ a2 ∧ a2 ≤ 4294967295) (h3 : 0 ≤ a3 ∧ a3 ≤ 255) (h4 : 0 ≤ a4 ∧ a4 ≤ 255) (w : World) :
    Calls Try.prog 4 #[.int .u16 a0, .int .u32 a1, .int .u32 a2, .int .u8 a3, .int .u8 a4] w fun e w' => e = .returned (.bool true) ∧ Below w.heap.size w w' := by
  obtain ⟨m, hm⟩ : ∃ m : Nat, (m : Int) = 1 + a0 := ⟨(1 + a0).toNat, by omega⟩
  obtain ⟨x1, y1⟩ := h0; obtain ⟨x2, y2⟩ := h1; obtain ⟨x3, y3⟩ := h2; obtain ⟨x4, y4⟩ := h3; obtain ⟨x5, y5⟩ := h4
  have hah := ahead (a3 := a3) (a4 := a4) (a1 := a1) (a2 := a2) (m := m) x4 y5 x3
  rw [hm] at hah
  obtain ⟨tA, htA⟩ : ∃ t, t = wtOf a3 m a1 := ⟨_, rfl⟩
  obtain ⟨tB, htB⟩ : ∃ t, t = wtOf a4 m (a1 + 255 * (1 + a0) + 1 + a2) := ⟨_, rfl⟩
  rw [← htA, ← htB] at hah
  have hN : ∀ w, Calls Try.prog 7 #[.int .i64 2, .int .i64 (1 + a0)] w fun e w' => e = .returned (.pointer (some ⟨w.heap.size + 1, 0, none⟩)) ∧ Que w' (w.heap.size + 1) (fun i => i < w.heap.size) ⟨2, m, 0, []⟩ ∧ Below w.heap.size w w' := fun w => by
    have h := new_any 2 m w (by omega) (by omega) (by omega) (by omega)
    rw [hm] at h
    exact h
  have hA : ∀ w g X, Que w g X ⟨2, m, 0, []⟩ → Calls Try.prog 8 #[.pointer (some ⟨g, 0, none⟩), .int .i64 1, .int .i64 a3, .int .i64 a1] w fun e w' => e = .returned (.tuple #[.int .i64 1, .int .i64 0]) ∧ Que w' g X ⟨2, m, 1, [⟨1, 1, tA⟩]⟩ ∧ Keep X w w' :=
    fun w g X h => by
      have h := put_ok h (id := 1) (prio := a3) (now := a1) (by unfold argB goodB; simp; omega) (by simp) (by simp)
      rw [htA]
      exact h
  have hB : ∀ w g X, Que w g X ⟨2, m, 1, [⟨1, 1, tA⟩]⟩ → Calls Try.prog 8 #[.pointer (some ⟨g, 0, none⟩), .int .i64 2, .int .i64 a4, .int .i64 (a1 + 255 * (1 + a0) + 1 + a2)] w fun e w' => e = .returned (.tuple #[.int .i64 2, .int .i64 0]) ∧ Que w' g X ⟨2, m, 2, [⟨1, 1, tA⟩, ⟨2, 2, tB⟩]⟩ ∧ Keep X w w' :=
    fun w g X h => by
      have h := put_ok h (id := 2) (prio := a4) (now := a1 + 255 * (1 + a0) + 1 + a2) (by unfold argB goodB; simp; omega) (by simp) (by simp)
      rw [htB]
      exact h
  have hF : ∀ w g X, Que w g X ⟨2, m, 2, [⟨1, 1, tA⟩, ⟨2, 2, tB⟩]⟩ → Calls Try.prog 18 #[.pointer (some ⟨g, 0, none⟩)] w fun e w' => e = .returned (.tuple #[.int .i64 1, .int .i64 1, .bool true]) ∧ ∃ n, w' = w.drewN n :=
    fun w g X h => first_is h ⟨1, 1, tA⟩ (fun y ⟨hy, hf⟩ => by
      have h3 := hf ⟨1, 1, tA⟩ (by simp)
      simp only [List.mem_cons, List.not_mem_nil, or_false] at hy
      rcases hy with rfl | rfl
      · rfl
      · exact absurd (.inl hah) h3) (by simp)
  have HN := Lib.hid hN
  have HA := Lib.hid hA
  have HB := Lib.hid hB
  have HF := Lib.hid hF
  clear hN hA hB hF htA htB hm hah
  go_enter Try.func4, Try.ntmps4
  go_wp2_with (first
    | (go_at_call 6; (with_reducible refine (awake_any _).mono ?_); rintro e w0 ⟨rfl, hb0⟩)
    | (go_at_call 7; (with_reducible refine (HN.out _).mono ?_); rintro e w1 ⟨rfl, hq1, hb1⟩; have Hq1 := Lib.hid hq1; clear hq1)
    | (go_at_call 8; (with_reducible refine (HA.out _ _ _ Hq1.out).mono ?_); rintro e w2 ⟨rfl, hq2, hk2⟩; have Hq2 := Lib.hid hq2; clear hq2)
    | (go_at_call 8; (with_reducible refine (HB.out _ _ _ Hq2.out).mono ?_); rintro e w3 ⟨rfl, hq3, hk3⟩; have Hq3 := Lib.hid hq3; clear hq3)
    | (go_at_call 18; (with_reducible refine (HF.out _ _ _ Hq3.out).mono ?_); rintro e w4 ⟨rfl, n, rfl⟩))
  go_ret
  refine ⟨rfl, ?_⟩
  have q1 := (hk2.trans hk3).below hb1.size (fun i hi => hi)
  have q2 := (hb1.trans q1).trans ((drewN_below w3 n).mono (by have := hb1.size; have := hk2.size; have := hk3.size; omega))
  exact hb0.trans (q2.mono hb0.size)

set_option maxRecDepth 100000 in
theorem lifted (os : Os) (started : os.Started) (H : Type) (enc : TypeId × Value → H) :
    ReturnsInHanded {} Try.checked os 4 .any (Rows.readyAgesSpec.pre6 enc Try.prog Try.f4 Rows.readyAgesRow.domain false) (Rows.readyAgesSpec.post enc Try.prog Try.f4 false true false false) := by
  refine returnsInHanded_of_change (C := Try.checked) own started (by kernel_rfl) Try.func4
    (ChangeSpec.witness6 (enc := enc) (C := Try.checked) false ⟨#[], #[.int .u16 0, .int .u32 0, .int .u32 0, .int .u8 0, .int .u8 0], []⟩ 8 (by kernel_rfl) (by kernel_rfl) (by kernel_rfl) (by kernel_rfl)) ?_
  intro W base args ds gs before hval0 hW _ _
  have hval : ∀ (j : Nat) t v, Try.f4.params[j]? = some t → args[j]? = some v → Value.okWide Try.prog W .any base t v := hval0
  have hW' := hW
  obtain ⟨p, q, hA0, hV, rfl, _, _⟩ := hW
  have hA : DataW.TrodAll enc Try.prog W 0 (fun _ => true) true Try.f4.params.toList args.toList ds p := hA0
  rw [Try.params4] at hA hval
  obtain ⟨v0, vs0, d0, ds0, p0, q0, hargs, rfl, rfl, h0, r0⟩ := trodAll_cons hA
  obtain ⟨v1, vs1, d1, ds1, p1, q1, rfl, rfl, rfl, h1, r1⟩ := trodAll_cons r0
  obtain ⟨v2, vs2, d2, ds2, p2, q2, rfl, rfl, rfl, h2, r2⟩ := trodAll_cons r1
  obtain ⟨v3, vs3, d3, ds3, p3, q3, rfl, rfl, rfl, h3, r3⟩ := trodAll_cons r2
  obtain ⟨v4, vs4, d4, ds4, p4, q4, rfl, rfl, rfl, h4, r4⟩ := trodAll_cons r3
  obtain ⟨rfl, rfl, rfl⟩ := trodAll_nil r4
  obtain rfl : args = #[v0, v1, v2, v3, v4] := by cases args; simp_all
  obtain ⟨rfl, rfl⟩ := trodVars_none hV
  obtain ⟨a0, rfl, rfl, rfl, w0⟩ := open_int Try.underlying47 (hval 0 47 v0 rfl rfl) h0
  obtain ⟨a1, rfl, rfl, rfl, w1⟩ := open_int Try.underlying48 (hval 1 48 v1 rfl rfl) h1
  obtain ⟨a2, rfl, rfl, rfl, w2⟩ := open_int Try.underlying48 (hval 2 48 v2 rfl rfl) h2
  obtain ⟨a3, rfl, rfl, rfl, w3⟩ := open_int Try.underlying5 (hval 3 5 v3 rfl rfl) h3
  obtain ⟨a4, rfl, rfl, rfl, w4⟩ := open_int Try.underlying5 (hval 4 5 v4 rfl rfl) h4
  clear hA0 hval0
  simp only [List.append_nil] at hW'
  refine (walk a0 a1 a2 a3 a4 (fits w0 rfl rfl) (fits w1 rfl rfl) (fits w2 rfl rfl) (fits w3 rfl rfl) (fits w4 rfl rfl) W).mono fun e W' ⟨he, bel⟩ => ?_
  subst he
  exact ⟨_, rfl, _, _, _, [], _, [], hW', trodAll_mk1 (shut_bool Try.underlying4 _), (trodAll_cons_mk (shut_int Try.underlying47 w0) (trodAll_cons_mk (shut_int Try.underlying48 w1) (trodAll_cons_mk (shut_int Try.underlying48 w2) (trodAll_cons_mk (shut_int Try.underlying5 w3) (trodAll_cons_mk (shut_int Try.underlying5 w4) trodAll_mk0))))), rfl, bel.frame _, fun h => by cases h⟩

/-- the statement -/
theorem proved : Rows.ReadyAgesSaid :=
  OpenClaim.holds_of_wide 4 Try.f4 rfl rfl rfl rfl rfl rfl rfl ⟨rfl, rfl, rfl, rfl, rfl⟩ rfl rfl rfl rfl rfl (by kernel_rfl) Try.func4 (by kernel_rfl)
    (of_decide_eq_true (by kernel_rfl)) (by unfold Func.isWrapper; first | (rw [if_pos (by decide +kernel)]; kernel_rfl) | (rw [if_neg (by decide +kernel)]; exact ⟨rfl, rfl⟩))
    (fun os started H enc _ => lifted os started H enc)
#print axioms proved
end Go.Proofs.Ytkfkjpabollaoaa.readyAges
