/-
  StoreSafe: what was synced is there behind a crash, and what there is is a beginning of what was appended.
  Conditions: none.
-/
import Derived.Test.YthfekmmcdfkigaaStoArg
import Derived.Test.YthfekmmcdfkigaaRows
namespace Go.Proofs.Ythfekmmcdfkigaa.storeSafe
open Go.ChangeShapes Go.WideShapes Go.ChangeAt Go.RowKit

theorem look1 (x : List UInt8) (f : Fl) (h : f.name = x) : lookBy Fl.name x [f] = some f := by simp [lookBy, h]
theorem put1 (f f' : Fl) (h : f'.name = f.name) : putBy Fl.name f' [f] = [f'] := by
  simp only [putBy, h]
  rw [if_neg (nm_irr _), if_pos trivial]
theorem sf1 (a : List UInt8) (h : a.length ≤ 60) : (St.append ⟨[], 200, 0, false⟩ true [120] a) = (⟨[⟨[120], a, 0, false⟩], 200, 0, false⟩, 0) := by
  have h1 : St.takes ⟨[], 200, 0, false⟩ true [120] a.length = 0 := by
    simp [St.takes, lookBy, usedF]
    omega
  unfold St.append
  rw [if_pos h1]
  rfl
theorem sf2 (a : List UInt8) : (St.sync ⟨[⟨[120], a, 0, false⟩], 200, 0, false⟩ [120]) = (⟨[⟨[120], a, a.length, true⟩], 200, 0, false⟩, 0) := by
  unfold St.sync
  rw [look1 [120] _ rfl]
  simp only [Bool.false_eq_true, if_false, St.doing]
  rw [if_neg (by omega), put1 ⟨[120], a, 0, false⟩ ⟨[120], a, a.length, true⟩ rfl]
theorem sf3 (a b : List UInt8) (ha : a.length ≤ 60) (hb : b.length ≤ 60) : (St.append ⟨[⟨[120], a, a.length, true⟩], 200, 0, false⟩ true [120] b) = (⟨[⟨[120], a ++ b, a.length, true⟩], 200, 0, false⟩, 0) := by
  have h1 : St.takes ⟨[⟨[120], a, a.length, true⟩], 200, 0, false⟩ true [120] b.length = 0 := by
    unfold St.takes
    rw [look1 [120] _ rfl]
    simp [usedF]
    omega
  unfold St.append
  rw [if_pos h1, look1 [120] _ rfl]
  simp only [Option.getD_some]
  rw [put1 ⟨[120], a, a.length, true⟩ ⟨[120], a ++ b, a.length, true⟩ rfl]
  rfl
theorem sf4 (fs : List Fl) (a : List UInt8) : (St.append (St.crash ⟨fs, 200, 0, false⟩) true [120] a) = (⟨fs, 200, 0, true⟩, 12) := by
  have h1 : St.takes (St.crash ⟨fs, 200, 0, false⟩) true [120] a.length = 12 := by simp [St.takes, St.crash]
  unfold St.append
  rw [h1, if_neg (by omega)]
  rfl
theorem sf5 (a b : List UInt8) (k : Int) {L : Nat} (hL : L = leftF ⟨[120], a ++ b, a.length, true⟩ k) : (St.boot ⟨[⟨[120], a ++ b, a.length, true⟩], 200, 0, true⟩ [k]) = (⟨[⟨[120], (a ++ b).take L, L, true⟩], 200, 0, false⟩, 0) := by
  subst hL
  simp [St.boot, bootF, keptF, sureF]
theorem sf6 (l : List UInt8) (n : Nat) (y : Bool) : readB ⟨[⟨[120], l, n, y⟩], 200, 0, false⟩ [120] = l ∧ readE ⟨[⟨[120], l, n, y⟩], 200, 0, false⟩ [120] = 0 := by
  constructor
  · unfold readB; rw [look1 [120] _ rfl]; rfl
  · unfold readE; rw [look1 [120] _ rfl]; rfl

set_option maxHeartbeats 4000000 in
set_option maxRecDepth 100000 in
theorem walk (A B : Option Addr) (a b : List UInt8) (ca cb : Nat) (k : Int) (w : World) (ha : Byt w w.heap.size A a) (hb : Byt w w.heap.size B b) (hla : a.length ≤ 9223372036854775807) (hlb : b.length ≤ 9223372036854775807) (h1 : -9223372036854775808 ≤ k) (h2 : k ≤ 9223372036854775807) :
    Calls Try.prog 4 #[.slice A a.length ca, .slice B b.length cb, .int .i64 k] w fun e w' => e = .returned (.bool true) ∧ Below w.heap.size w w' := by
  by_cases hs : 60 < a.length ∨ 60 < b.length
  · by_cases hs1 : 60 < a.length
    · clear hs
      go_enter Try.func4, Try.ntmps4
      go_wp2_with (go_at_call 7; (refine (awake_any _).mono ?_); rintro e W1 ⟨rfl, b1⟩)
      go_ret
      exact ⟨rfl, b1⟩
    · have hs2 : 60 < b.length := hs.resolve_left hs1
      clear hs
      go_enter Try.func4, Try.ntmps4
      go_wp2_with (go_at_call 7; (refine (awake_any _).mono ?_); rintro e W1 ⟨rfl, b1⟩)
      go_ret
      exact ⟨rfl, b1⟩
  · have ha60 : a.length ≤ 60 := by omega
    have hb60 : b.length ≤ 60 := by omega
    clear hs hla hlb
    go_enter Try.func4, Try.ntmps4
    go_wp2_with (go_at_call 7; (refine (awake_any _).mono ?_); rintro e W0 ⟨rfl, k0⟩)
    refine (new_any 200 W0 (by omega) (by omega)).mono ?_
    rintro e W1 ⟨rfl, hS1, hb1⟩
    obtain ⟨X, hX⟩ : ∃ X : Nat → Prop, X = fun i => i < W0.heap.size := ⟨_, rfl⟩
    rw [← hX] at hS1
    obtain ⟨g, hg⟩ : ∃ g, g = W0.heap.size + 1 := ⟨_, rfl⟩
    rw [← hg] at hS1 ⊢
    have HX := Lib.hid (fun i (hi : i < w.heap.size) => (by rw [hX]; exact Nat.lt_of_lt_of_le hi k0.size : X i))
    have k1 := k0.trans (hb1.mono k0.size)
    clear hX hg hb1 k0
    go_wp2_with fail
    refine (append_any g X _ (.mk #[120]) _ a ca _ hS1 (by decide) ((ha.below k1).more k1.size)).mono ?_
    intro e W2 hD
    obtain ⟨rfl, hS2, hK2⟩ := done_to hD (by rw [nameB_x]; exact sf1 a ha60) (z := 0) rfl
    have k2 : Below w.heap.size w W2 := k1.trans (hK2.below k1.size HX.out)
    clear hK2 hD hS1 k1
    go_wp2_with fail
    refine (sync_any g X _ (.mk #[120]) _ hS2 (by decide)).mono ?_
    intro e W3 hD
    obtain ⟨rfl, hS3, hK3⟩ := done_to hD (sf2 a) (z := 0) rfl
    have k3 : Below w.heap.size w W3 := k2.trans (hK3.below k2.size HX.out)
    clear hK3 hD hS2 k2
    go_wp2_with fail
    refine (append_any g X _ (.mk #[120]) _ b cb _ hS3 (by decide) ((hb.below k3).more k3.size)).mono ?_
    intro e W4 hD
    obtain ⟨rfl, hS4, hK4⟩ := done_to hD (by rw [nameB_x]; exact sf3 a b ha60 hb60) (z := 0) rfl
    have k4 : Below w.heap.size w W4 := k3.trans (hK4.below k3.size HX.out)
    clear hK4 hD hS3 k3
    go_wp2_with fail
    refine (crash_any g X _ _ hS4).mono ?_
    rintro e W5 ⟨rfl, hS5, hK5⟩
    have k5 : Below w.heap.size w W5 := k4.trans (hK5.below k4.size HX.out)
    clear hK5 hS4 k4
    go_wp2_with fail
    refine (append_any g X _ (.mk #[120]) _ a ca _ hS5 (by decide) ((ha.below k5).more k5.size)).mono ?_
    intro e W6 hD
    obtain ⟨rfl, hS6, hK6⟩ := done_to hD (by rw [nameB_x]; exact sf4 _ a) (z := 12) rfl
    have k6 : Below w.heap.size w W6 := k5.trans (hK6.below k5.size HX.out)
    clear hK6 hD hS5 k5
    go_wp2_with fail
    have b7 := (Below.refl W6.heap.size W6).alloc (Nat.le_refl _) (.cells #[.int .i64 k] 3)
    have hS6' := hS6.plus (.cells #[.int .i64 k] 3)
    refine (boot_any g _ _ _ _ [k] 1 hS6' (Ints.one W6 _ 3 k (.inr rfl) h1 h2) (by simp)).mono ?_
    intro e W7 hD
    obtain ⟨L, hL⟩ : ∃ L, L = leftF ⟨[120], a ++ b, a.length, true⟩ k := ⟨_, rfl⟩
    obtain ⟨rfl, hS7, hK7⟩ := done_to hD (sf5 a b k hL) (z := 0) rfl
    have hL1 : a.length ≤ L := by rw [hL]; simp [leftF]
    have hL2 : L ≤ a.length + b.length := by rw [hL]; simp [leftF]; omega
    have k7 : Below w.heap.size w W7 := k6.trans (((Keep.of_below b7).trans hK7).below k6.size (fun i hi => .inl (HX.out i hi)))
    clear hK7 hD hS6 hS6' k6 b7 hL
    go_wp2_with fail
    refine (read_any g _ _ (.mk #[120]) _ hS7 (by decide)).mono ?_
    intro e W8 hD
    have h6 := sf6 ((a ++ b).take L) L true
    obtain ⟨A8, c8, rfl, hby, hc, hb8⟩ := read_to hD h6.1 (z := 0) (by rw [show readE _ (ByteArray.mk #[120]).data.toList = 0 from h6.2]; rfl)
    have k8 : Below w.heap.size w W8 := k7.trans (hb8.mono k7.size)
    obtain ⟨l, hl⟩ : ∃ l, l = (a ++ b).take L := ⟨_, rfl⟩
    rw [← hl] at hby hc ⊢
    have hll : l.length = L := by rw [hl]; simp; omega
    rw [hll] at hc ⊢
    clear hD hS7 k7 hb8 h6
    have ta := ((ha.below k8)).text (P := Try.prog) 28 5 9 Try.underlying28 Try.underlying5 Try.underlying9 ca
    have tb := ((hb.below k8)).text (P := Try.prog) 28 5 9 Try.underlying28 Try.underlying5 Try.underlying9 cb
    have hnn : ¬ 9223372036854775807 < (ByteArray.mk a.toArray).size + (ByteArray.mk b.toArray).size := by simp [ByteArray.size]; omega
    have Hll := Lib.hid hll
    have Hl := Lib.hid hl
    clear hll hl
    go_wp2
    obtain ⟨S, hS⟩ : ∃ S, S = ByteArray.mk a.toArray ++ ByteArray.mk b.toArray := ⟨_, rfl⟩
    rw [← hS]
    have hSl : S.data.toList = a ++ b := by rw [hS, ByteArray.data_append, Array.toList_append]
    have hSz : S.size = a.length + b.length := by
      have : S.size = S.data.toList.length := by rw [Array.length_toList]; rfl
      rw [this, hSl, List.length_append]
    have hsl : ∀ W, (Instr.slice 9 (.string S) none (some (.int .i64 (L : Int))) none).run Try.prog W = .ok (.string ⟨l.toArray⟩) W := fun W => by
      have e := run_slice_string_h (P := Try.prog) W 9 S Try.underlying9 .i64 (L : Int) (by omega) (by omega)
      rw [e]
      have e2 : (S.extract 0 L).data.toList = l := by
        rw [ByteArray.data_extract]
        simp only [Array.toList_extract, List.extract, Nat.sub_zero, List.drop_zero]
        rw [hSl, Hl.out]
      have e3 : S.extract 0 L = ⟨l.toArray⟩ := by rw [← e2]
      simp [e3]
    have tl : ∀ u, Below W8.heap.size W8 u → (convert 28 9 (.slice A8 L c8)).run Try.prog u = .ok (.string ⟨l.toArray⟩) u := fun u hu => by
      have := (hby.below hu).text (P := Try.prog) 28 5 9 Try.underlying28 Try.underlying5 Try.underlying9 c8
      rw [Hll.out] at this
      exact this
    have q1 : decide (a.length ≤ L) = true := by simp; omega
    have q2 : decide (L ≤ S.size) = true := by simp; omega
    have HSz := Lib.hid hSz
    have hSz' : S.size ≤ 120 := by omega
    clear hS hSl hSz ta tb hnn
    go_region_held3 (fun w' => Below W8.heap.size W8 w') (first | exact Below.refl _ _ | exact Below.drew (Below.refl _ _) | assumption)
      (fail)
    all_goals
      go_wp2
      go_ret
      exact ⟨rfl, k8.drew⟩

set_option maxRecDepth 1000000 in
theorem lifted (os : Os) (started : os.Started) (H : Type) (enc : TypeId × Value → H) :
    ReturnsInHanded {} Try.checked os 4 .any (Rows.storeSafeSpec.pre6 enc Try.prog Try.f4 Rows.storeSafeRow.domain false) (Rows.storeSafeSpec.post enc Try.prog Try.f4 false true false false) := by
  refine returnsInHanded_of_change_sized (C := Try.checked) own started (by kernel_rfl) Try.func4
    (ChangeSpec.witness6 (enc := enc) (C := Try.checked) false ⟨#[], #[.slice none 0 0, .slice none 0 0, .int .i64 0], []⟩ 8 (by kernel_rfl) (by kernel_rfl) (by kernel_rfl) (by kernel_rfl)) ?_
  intro W base args ds gs before hval0 hW _ _ _
  have hval : ∀ (j : Nat) t v, Try.f4.params[j]? = some t → args[j]? = some v → Value.okWide Try.prog W .any base t v := hval0
  have hW' := hW
  obtain ⟨p, q, hA0, hV, rfl, _, _⟩ := hW
  have hA : DataW.TrodAll enc Try.prog W 0 (fun _ => true) true Try.f4.params.toList args.toList ds p := hA0
  rw [Try.params4] at hA hval
  obtain ⟨rfl, rfl⟩ := trodVars_none hV
  obtain ⟨v0, vs0, d0, ds0, p0, q0, hargs, rfl, rfl, h0, r0⟩ := trodAll_cons hA
  obtain ⟨v1, vs1, d1, ds1, p1, q1, rfl, rfl, rfl, h1, r1⟩ := trodAll_cons r0
  obtain ⟨v2, vs2, d2, ds2, p2, q2, rfl, rfl, rfl, h2, r2⟩ := trodAll_cons r1
  obtain ⟨rfl, rfl, rfl⟩ := trodAll_nil r2
  obtain rfl : args = #[v0, v1, v2] := by cases args; simp_all
  obtain ⟨a0, len, cap, rfl⟩ := okWide_slice Try.underlying28 (hval 0 28 v0 rfl rfl)
  obtain ⟨a1, len1, cap1, rfl⟩ := okWide_slice Try.underlying28 (hval 1 28 v1 rfl rfl)
  obtain ⟨k, rfl, rfl, rfl, w2⟩ := open_int Try.underlying3 (hval 2 3 v2 rfl rfl) h2
  clear hA0 hval0
  simp only [List.append_nil] at hW'
  have hlt0 : ∀ x ∈ p0, x.block < W.heap.size := fun x hx => by simpa using hW'.lt x (by simp [hx])
  have hlt1 : ∀ x ∈ p1, x.block < W.heap.size := fun x hx => by simpa using hW'.lt x (by simp [hx])
  obtain ⟨l0, rfl, hc0, hm0, hb0⟩ := arg_bytes h0
  obtain ⟨l1, rfl, hc1, hm1, hb1⟩ := arg_bytes h1
  have hwf := int_wf w2
  refine (walk a0 a1 l0 l1 cap cap1 k W hb0 hb1 hm0 hm1 hwf.1 hwf.2).mono fun e W' ⟨he, bel⟩ => ?_
  subst he
  exact ⟨_, rfl, _, _, _, [], _, [], hW', trodAll_mk1 (shut_bool Try.underlying4 _), (trodAll_cons_mk (Below.trod laidOut (by kernel_rfl) (of_decide_eq_true (by kernel_rfl)) h0 bel hlt0) (trodAll_cons_mk (Below.trod laidOut (by kernel_rfl) (of_decide_eq_true (by kernel_rfl)) h1 bel hlt1) (trodAll_cons_mk (shut_int Try.underlying3 w2) trodAll_mk0))), rfl, bel.frame _, fun h => by cases h⟩

/-- the statement -/
theorem proved : Rows.StoreSafeSaid :=
  OpenClaim.holds_of_wide 4 Try.f4 rfl rfl rfl rfl rfl rfl rfl ⟨rfl, rfl, rfl, rfl, rfl⟩ rfl rfl rfl rfl rfl (by kernel_rfl) Try.func4 (by kernel_rfl)
    (of_decide_eq_true (by kernel_rfl)) (by unfold Func.isWrapper; first | (rw [if_pos (by decide +kernel)]; kernel_rfl) | (rw [if_neg (by decide +kernel)]; exact ⟨rfl, rfl⟩))
    (fun os started H enc _ => lifted os started H enc)
#print axioms proved
end Go.Proofs.Ythfekmmcdfkigaa.storeSafe
