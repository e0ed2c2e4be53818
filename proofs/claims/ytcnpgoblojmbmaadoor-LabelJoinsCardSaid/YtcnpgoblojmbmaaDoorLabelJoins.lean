/-
  The statement LabelJoinsCardSaid: for every input the law function LabelJoins returns true (masked texts one behind the other have as many runes as both, and each is its own masked text), and the arguments read afterwards as before.
  Conditions: none beyond the statement's own (two tables of the library's hold what its text lays; the proof does not read them).
-/
import Derived.Test.YtcnpgoblojmbmaaDoorCards
import Derived.Test.YtcnpgoblojmbmaaDoorTie
import Derived.Test.YtcnpgoblojmbmaaDoorFrame
import Derived.Test.YtcnpgoblojmbmaaDoorLabAwake
import Derived.ProofKit
import Derived.OpenShut
import Derived.ShutString
import Derived.LaidMore
import Derived.Lay
import Derived.Shelf.Vars
import Derived.Stop.Joined
namespace Go.Proofs.YtcnpgoblojmbmaaDoor.labelJoins
open Go.ChangeShapes Go.WideShapes Go.ChangeAt Go.RowKit
open Go.ChangeMaps (open_string shut_string)

theorem own : ownKnob Tryd.prog.godebug = none := by kernel_rfl

theorem joinR (a b : ByteArray) (w : World) (ha : a.size ≤ 200) (hb : b.size ≤ 200) : Calls Tryd.prog 10 #[.string (⟨(mask a.data.toList).toArray⟩ ++ ⟨(mask b.data.toList).toArray⟩)] w fun e w' => e = .returned (.int .i64 ((runes a.data.toList : Int) + (runes b.data.toList : Int))) ∧ Below w.heap.size w w' := by
  have la := mask_size a
  have lb := mask_size b
  have h := runes_any (⟨(mask a.data.toList).toArray⟩ ++ ⟨(mask b.data.toList).toArray⟩) w (by rw [ByteArray.size_append]; show (mask a.data.toList).toArray.size + (mask b.data.toList).toArray.size ≤ _; simp only [List.size_toArray]; omega)
  rw [show (ByteArray.mk (mask a.data.toList).toArray ++ ByteArray.mk (mask b.data.toList).toArray).data.toList = mask a.data.toList ++ mask b.data.toList by simp [ByteArray.data_append], runes_join] at h
  exact h
theorem joinM (a b : ByteArray) (w : World) (ha : a.size ≤ 200) (hb : b.size ≤ 200) : Calls Tryd.prog 12 #[.string (⟨(mask a.data.toList).toArray⟩ ++ ⟨(mask b.data.toList).toArray⟩)] w fun e w' => e = .returned (.string (⟨(mask a.data.toList).toArray⟩ ++ ⟨(mask b.data.toList).toArray⟩)) ∧ Below w.heap.size w w' := by
  have la := mask_size a
  have lb := mask_size b
  have h := mask_any (⟨(mask a.data.toList).toArray⟩ ++ ⟨(mask b.data.toList).toArray⟩) w (by rw [ByteArray.size_append]; show (mask a.data.toList).toArray.size + (mask b.data.toList).toArray.size ≤ _; simp only [List.size_toArray]; omega)
  rw [show (ByteArray.mk (mask a.data.toList).toArray ++ ByteArray.mk (mask b.data.toList).toArray).data.toList = mask a.data.toList ++ mask b.data.toList by simp [ByteArray.data_append], mask_join] at h
  rw [show (ByteArray.mk (mask a.data.toList ++ mask b.data.toList).toArray) = ByteArray.mk (mask a.data.toList).toArray ++ ByteArray.mk (mask b.data.toList).toArray by ext1; simp [ByteArray.data_append]] at h
  exact h

set_option maxHeartbeats 4000000 in
set_option maxRecDepth 1000000 in
theorem walk (a b : ByteArray) (m : Int) (w : World) (wa : a.size ≤ maxLen) (wb : b.size ≤ maxLen) (hm : w.cell? ⟨0, 0, none⟩ = some (.int .i64 m)) :
    Calls Tryd.prog 6 #[.string a, .string b] w fun e w' => e = .returned (.bool true) ∧ Below w.heap.size w w' := by
  have C0 := Lib.hid (awake_any m w hm)
  clear hm
  unfold maxLen at wa wb
  by_cases ha : 200 < a.size
  · go_enter Tryd.func6, Tryd.ntmps6
    go_wp2_with (go_at_call 7; (refine (C0.out).mono ?_); rintro e W1 ⟨rfl, b1⟩)
    go_ret
    exact ⟨rfl, b1⟩
  by_cases hb : 200 < b.size
  · go_enter Tryd.func6, Tryd.ntmps6
    go_wp2_with (go_at_call 7; (refine (C0.out).mono ?_); rintro e W1 ⟨rfl, b1⟩)
    go_ret
    exact ⟨rfl, b1⟩
  have ra := runes_size a
  have rb := runes_size b
  have la := mask_size a
  have lb := mask_size b
  go_enter Tryd.func6, Tryd.ntmps6
  go_wp2_with (first
    | (go_at_call 7; (refine (C0.out).mono ?_); rintro e W1 ⟨rfl, b1⟩)
    | (go_at_call 12; ((with_reducible refine (joinM a b _ (by omega) (by omega)).mono ?_)); rintro e W7 ⟨rfl, b7⟩)
    | (go_at_call 12; ((with_reducible refine (mask_any a _ (by omega)).mono ?_)); rintro e W2 ⟨rfl, b2⟩)
    | (go_at_call 12; ((with_reducible refine (mask_any b _ (by omega)).mono ?_)); rintro e W3 ⟨rfl, b3⟩)
    | (go_at_call 10; ((with_reducible refine (joinR a b _ (by omega) (by omega)).mono ?_)); rintro e W4 ⟨rfl, b4⟩)
    | (go_at_call 10; ((with_reducible refine (runes_any a _ (by omega)).mono ?_)); rintro e W5 ⟨rfl, b5⟩)
    | (go_at_call 10; ((with_reducible refine (runes_any b _ (by omega)).mono ?_)); rintro e W6 ⟨rfl, b6⟩))
  go_ret
  have c2 := b1.trans (b2.mono b1.size)
  have c3 := c2.trans (b3.mono c2.size)
  have c4 := c3.trans (b4.mono c3.size)
  have c5 := c4.trans (b5.mono c4.size)
  have c6 := c5.trans (b6.mono c5.size)
  exact ⟨rfl, c6.trans (b7.mono c6.size)⟩

set_option maxRecDepth 100000 in
theorem lifted (os : Os) (started : os.Started) (H : Type) (enc : TypeId × Value → H) :
    ReturnsInHanded {} Tryd.checked os 6 .any (fun w args => (Rows.labelJoinsSpec.pre enc Tryd.prog Tryd.f6 Rows.labelJoinsRow.domain false w args ∧ laidMetH Tryd.prog Rows.labelJoinsRow.laid w) ∧ sizedMet enc Tryd.prog Tryd.f6 (OpenSpec.ofChange Rows.labelJoinsSpec) false w args)
      (Rows.labelJoinsSpec.post enc Tryd.prog Tryd.f6 false true false false) := by
  refine returns_both (C := Tryd.checked) (X := fun w _ => laidMetH Tryd.prog Rows.labelJoinsRow.laid w) (fun _ _ _ hh h => h.of_heap hh) own started (by kernel_rfl) Tryd.func6
    (ChangeSpec.witness_shaped (enc := enc) (C := Tryd.checked) (os := os) (X := fun w _ => laidMetH Tryd.prog Rows.labelJoinsRow.laid w) false (World.laidAll Tryd.prog os Rows.labelJoinsRow.laid) #[.string ⟨#[]⟩, .string ⟨#[]⟩] 8 (World.laidAll_os _ _ _)
      (World.shaped_of_ZipB (by kernel_rfl) (by kernel_rfl)) (by kernel_rfl) (by kernel_rfl) (by kernel_rfl)
      (by rw [MakeChecks.laidMetH_plain _ _ _ (by kernel_rfl)]; exact laidMet_laidAll _ (by kernel_rfl) (by kernel_rfl))) ?_
  intro W base args ds gs before hval0 hW _ _ hsh
  have hval : ∀ (j : Nat) t v, Tryd.f6.params[j]? = some t → args[j]? = some v → Value.okWide Tryd.prog W .any base t v := hval0
  have hW' := hW
  obtain ⟨p, q, hA0, hV, rfl, _, _⟩ := hW
  have hA : DataW.TrodAll enc Tryd.prog W 0 (fun _ => true) true Tryd.f6.params.toList args.toList ds p := hA0
  rw [Tryd.params6] at hA hval
  obtain ⟨rfl, rfl⟩ := trodVars_none hV
  obtain ⟨m, hm⟩ := cell_of_shapedOpen_int (P := Tryd.prog) (g := 0) (t := 3) (zero := #[.int .i64 0]) hsh (of_decide_eq_true (by kernel_rfl)) (by kernel_rfl) rfl (by kernel_rfl) (by kernel_rfl) Tryd.underlying3
  obtain ⟨v0, vs0, d0, ds0, p0, q0, hargs, rfl, rfl, h0, r0⟩ := trodAll_cons hA
  obtain ⟨v1, vs1, d1, ds1, p1, q1, rfl, rfl, rfl, h1, r1⟩ := trodAll_cons r0
  obtain ⟨rfl, rfl, rfl⟩ := trodAll_nil r1
  obtain rfl : args = #[v0, v1] := by cases args; simp_all
  obtain ⟨a0, rfl, rfl, rfl, w0⟩ := open_string Tryd.underlying9 (hval 0 9 v0 rfl rfl) h0
  obtain ⟨a1, rfl, rfl, rfl, w1⟩ := open_string Tryd.underlying9 (hval 1 9 v1 rfl rfl) h1
  clear hA0 hval0
  refine (walk a0 a1 m W w0 w1 hm).mono fun e W' ⟨he, bel⟩ => ?_
  subst he
  exact ⟨_, rfl, _, _, _, [], _, [], hW', trodAll_mk1 (shut_bool Tryd.underlying4 _), (trodAll_cons_mk (shut_string Tryd.underlying9 w0) (trodAll_cons_mk (shut_string Tryd.underlying9 w1) trodAll_mk0)), rfl, bel.frame _, fun h => by cases h⟩

theorem over : Rows.labelJoinsRow.holds Tryd.pinned (OpenSpec.ofChange Rows.labelJoinsSpec) :=
  OpenClaim.holds_of_wide 6 Tryd.f6 rfl rfl rfl rfl rfl rfl rfl ⟨rfl, rfl, rfl, rfl, rfl⟩ rfl rfl rfl rfl rfl (by kernel_rfl) Tryd.func6 (by kernel_rfl)
    (of_decide_eq_true (by kernel_rfl)) (by unfold Func.isWrapper; first | (rw [if_pos (by decide +kernel)]; kernel_rfl) | (rw [if_neg (by decide +kernel)]; exact ⟨rfl, rfl⟩))
    (fun os started H enc _ => lifted os started H enc)

/-- the statement -/
theorem proved : Rows.LabelJoinsCardSaid :=
  Claim7.holds_tied_plain_at .later [] [.data, .pinned] true Rows.labelJoinsCard.stood.harness false over (fun _ h => by cases h) (by kernel_rfl) (fun _ h => by cases h) labelJoins_row_tie rfl ⟨rfl, rfl⟩ (by kernel_rfl) rfl
    (fun f fn hf hfn => by
      obtain rfl : f = 6 := Option.some.inj ((show Tryd.prog.funcNamed Rows.labelJoinsRow.func = some 6 by kernel_rfl).symm.trans hf) |>.symm
      obtain rfl : fn = Tryd.f6 := (Option.some.inj (Tryd.func6.symm.trans hfn)).symm
      exact ⟨by kernel_rfl, fun j t ht => by
        rw [Tryd.params6] at ht
        have hm : t ∈ [9, 9] := by simpa using Array.mem_of_getElem? ht
        have hall : ([9, 9].all fun u => !Tryd.prog.wantsStandIn u) = true := by kernel_rfl
        exact (show Tryd.prog.wantsStandIn t = false by simpa using List.all_eq_true.1 hall t hm)⟩)
    (by kernel_rfl)
#print axioms proved
end Go.Proofs.YtcnpgoblojmbmaaDoor.labelJoins
