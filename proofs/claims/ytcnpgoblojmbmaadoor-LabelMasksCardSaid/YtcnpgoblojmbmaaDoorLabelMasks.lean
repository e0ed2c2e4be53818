/-
  The statement LabelMasksCardSaid: for every input the law function LabelMasks returns true (a masked text has as many runes, masked again it is the same, behind a letter it is a name if it is not too long, and a name is its own masked text), and the arguments read afterwards as before.
  Conditions: none beyond the statement's own (two tables of the library's hold what its text lays; the proof does not read them).
-/
import Derived.Test.YtcnpgoblojmbmaaDoorCards
import Derived.Test.YtcnpgoblojmbmaaDoorTie
import Derived.Test.YtcnpgoblojmbmaaDoorFrame
import Derived.Test.YtcnpgoblojmbmaaDoorLabAwake
import Derived.ProofKit
import Derived.OpenShut
import Derived.ShutString
import Derived.LaidMore
import Derived.Lay
import Derived.Shelf.Vars
import Derived.Stop.Joined
namespace Go.Proofs.YtcnpgoblojmbmaaDoor.labelMasks
open Go.ChangeShapes Go.WideShapes Go.ChangeAt Go.RowKit
open Go.ChangeMaps (open_string shut_string)

theorem own : ownKnob Tryd.prog.godebug = none := by kernel_rfl

theorem bytes_self (l : List UInt8) : (ByteArray.mk l.toArray).data.toList = l := rfl
theorem maskR (s : ByteArray) (w : World) (hs : s.size ≤ 200) : Calls Tryd.prog 10 #[.string ⟨(mask s.data.toList).toArray⟩] w fun e w' => e = .returned (.int .i64 (runes s.data.toList)) ∧ Below w.heap.size w w' := by
  have l := mask_size s
  have h := runes_any ⟨(mask s.data.toList).toArray⟩ w (by show (mask s.data.toList).toArray.size ≤ _; rw [List.size_toArray]; omega)
  rw [bytes_self, runes_mask] at h
  exact h
theorem maskM (s : ByteArray) (w : World) (hs : s.size ≤ 200) : Calls Tryd.prog 12 #[.string ⟨(mask s.data.toList).toArray⟩] w fun e w' => e = .returned (.string ⟨(mask s.data.toList).toArray⟩) ∧ Below w.heap.size w w' := by
  have l := mask_size s
  have h := mask_any ⟨(mask s.data.toList).toArray⟩ w (by show (mask s.data.toList).toArray.size ≤ _; rw [List.size_toArray]; omega)
  rw [bytes_self, mask_mask] at h
  exact h
theorem goodA (s : ByteArray) (w : World) (hs : s.size ≤ 200) (b : Bool) (hb : decide (runes s.data.toList < 64) = b) : Calls Tryd.prog 8 #[.string (⟨#[97]⟩ ++ ⟨(mask s.data.toList).toArray⟩)] w fun e w' => e = .returned (.bool b) ∧ Below w.heap.size w w' := by
  have l := mask_size s
  have h := good_any (⟨#[97]⟩ ++ ⟨(mask s.data.toList).toArray⟩) w (by rw [ByteArray.size_append]; show 1 + (mask s.data.toList).toArray.size ≤ _; rw [List.size_toArray]; omega)
  rw [show (ByteArray.mk #[97] ++ ByteArray.mk (mask s.data.toList).toArray).data.toList = 97 :: mask s.data.toList by simp [ByteArray.data_append], name_a, hb] at h
  exact h

set_option maxHeartbeats 4000000 in
set_option maxRecDepth 1000000 in
theorem walk (s : ByteArray) (m : Int) (w : World) (ws : s.size ≤ maxLen) (hm : w.cell? ⟨0, 0, none⟩ = some (.int .i64 m)) :
    Calls Tryd.prog 5 #[.string s] w fun e w' => e = .returned (.bool true) ∧ Below w.heap.size w w' := by
  have C0 := Lib.hid (awake_any m w hm)
  clear hm
  unfold maxLen at ws
  by_cases hs : 200 < s.size
  · go_enter Tryd.func5, Tryd.ntmps5
    go_wp2_with (go_at_call 7; (refine (C0.out).mono ?_); rintro e W1 ⟨rfl, b1⟩)
    go_ret
    exact ⟨rfl, b1⟩
  have rs := runes_size s
  have ls := mask_size s
  obtain ⟨rb, hrb⟩ : ∃ b, decide (runes s.data.toList < 64) = b := ⟨_, rfl⟩
  have GA := Lib.hid (fun W => goodA s W (by omega) rb hrb)
  have GS := Lib.hid (fun W => good_any s W (by omega))
  cases hg : nameB s.data.toList with
  | true =>
    rw [hg] at GS
    have hmq : (mask s.data.toList == s.toList) = true := by rw [ByteArray.toList_eq, beq_iff_eq]; exact name_mask hg
    clear hg
    have hrn : decide ((runes s.data.toList : Int) < 64) = rb := by rw [← hrb]; simp; omega
    cases rb
    all_goals
      clear hrb
      go_enter Tryd.func5, Tryd.ntmps5
      go_wp2_with (first
        | (go_at_call 7; (refine (C0.out).mono ?_); rintro e W1 ⟨rfl, b1⟩)
        | (go_at_call 12; ((with_reducible refine (maskM s _ (by omega)).mono ?_)); rintro e W4 ⟨rfl, b4⟩)
        | (go_at_call 12; ((with_reducible refine (mask_any s _ (by omega)).mono ?_)); rintro e W2 ⟨rfl, b2⟩)
        | (go_at_call 10; ((with_reducible refine (maskR s _ (by omega)).mono ?_)); rintro e W3 ⟨rfl, b3⟩)
        | (go_at_call 10; ((with_reducible refine (runes_any s W3 (by omega)).mono ?_)); rintro e W5 ⟨rfl, b5⟩)
        | (go_at_call 10; ((with_reducible refine (runes_any s _ (by omega)).mono ?_)); rintro e W6 ⟨rfl, b6⟩)
        | (go_at_call 8; ((with_reducible refine (GA.out _).mono ?_)); rintro e W7 ⟨rfl, b7⟩)
        | (go_at_call 8; ((with_reducible refine (GS.out _).mono ?_)); rintro e W8 ⟨rfl, b8⟩))
      go_ret
      have c2 := b1.trans (b2.mono b1.size)
      have c3 := c2.trans (b3.mono c2.size)
      have c4 := c3.trans (b5.mono c3.size)
      have c5 := c4.trans (b4.mono c4.size)
      have c6 := c5.trans (b7.mono c5.size)
      have c7 := c6.trans (b6.mono c6.size)
      exact ⟨rfl, c7.trans (b8.mono c7.size)⟩
  | false =>
    rw [hg] at GS
    clear hg
    have hrn : decide ((runes s.data.toList : Int) < 64) = rb := by rw [← hrb]; simp; omega
    cases rb
    all_goals
      clear hrb
      go_enter Tryd.func5, Tryd.ntmps5
      go_wp2_with (first
        | (go_at_call 7; (refine (C0.out).mono ?_); rintro e W1 ⟨rfl, b1⟩)
        | (go_at_call 12; ((with_reducible refine (maskM s _ (by omega)).mono ?_)); rintro e W4 ⟨rfl, b4⟩)
        | (go_at_call 12; ((with_reducible refine (mask_any s _ (by omega)).mono ?_)); rintro e W2 ⟨rfl, b2⟩)
        | (go_at_call 10; ((with_reducible refine (maskR s _ (by omega)).mono ?_)); rintro e W3 ⟨rfl, b3⟩)
        | (go_at_call 10; ((with_reducible refine (runes_any s W3 (by omega)).mono ?_)); rintro e W5 ⟨rfl, b5⟩)
        | (go_at_call 10; ((with_reducible refine (runes_any s _ (by omega)).mono ?_)); rintro e W6 ⟨rfl, b6⟩)
        | (go_at_call 8; ((with_reducible refine (GA.out _).mono ?_)); rintro e W7 ⟨rfl, b7⟩)
        | (go_at_call 8; ((with_reducible refine (GS.out _).mono ?_)); rintro e W8 ⟨rfl, b8⟩))
      go_ret
      have c2 := b1.trans (b2.mono b1.size)
      have c3 := c2.trans (b3.mono c2.size)
      have c4 := c3.trans (b5.mono c3.size)
      have c5 := c4.trans (b4.mono c4.size)
      have c6 := c5.trans (b7.mono c5.size)
      have c7 := c6.trans (b6.mono c6.size)
      exact ⟨rfl, c7.trans (b8.mono c7.size)⟩

set_option maxRecDepth 100000 in
theorem lifted (os : Os) (started : os.Started) (H : Type) (enc : TypeId × Value → H) :
    ReturnsInHanded {} Tryd.checked os 5 .any (fun w args => (Rows.labelMasksSpec.pre enc Tryd.prog Tryd.f5 Rows.labelMasksRow.domain false w args ∧ laidMetH Tryd.prog Rows.labelMasksRow.laid w) ∧ sizedMet enc Tryd.prog Tryd.f5 (OpenSpec.ofChange Rows.labelMasksSpec) false w args)
      (Rows.labelMasksSpec.post enc Tryd.prog Tryd.f5 false true false false) := by
  refine returns_both (C := Tryd.checked) (X := fun w _ => laidMetH Tryd.prog Rows.labelMasksRow.laid w) (fun _ _ _ hh h => h.of_heap hh) own started (by kernel_rfl) Tryd.func5
    (ChangeSpec.witness_shaped (enc := enc) (C := Tryd.checked) (os := os) (X := fun w _ => laidMetH Tryd.prog Rows.labelMasksRow.laid w) false (World.laidAll Tryd.prog os Rows.labelMasksRow.laid) #[.string ⟨#[]⟩] 8 (World.laidAll_os _ _ _)
      (World.shaped_of_ZipB (by kernel_rfl) (by kernel_rfl)) (by kernel_rfl) (by kernel_rfl) (by kernel_rfl)
      (by rw [MakeChecks.laidMetH_plain _ _ _ (by kernel_rfl)]; exact laidMet_laidAll _ (by kernel_rfl) (by kernel_rfl))) ?_
  intro W base args ds gs before hval0 hW _ _ hsh
  have hval : ∀ (j : Nat) t v, Tryd.f5.params[j]? = some t → args[j]? = some v → Value.okWide Tryd.prog W .any base t v := hval0
  have hW' := hW
  obtain ⟨p, q, hA0, hV, rfl, _, _⟩ := hW
  have hA : DataW.TrodAll enc Tryd.prog W 0 (fun _ => true) true Tryd.f5.params.toList args.toList ds p := hA0
  rw [Tryd.params5] at hA hval
  obtain ⟨rfl, rfl⟩ := trodVars_none hV
  obtain ⟨m, hm⟩ := cell_of_shapedOpen_int (P := Tryd.prog) (g := 0) (t := 3) (zero := #[.int .i64 0]) hsh (of_decide_eq_true (by kernel_rfl)) (by kernel_rfl) rfl (by kernel_rfl) (by kernel_rfl) Tryd.underlying3
  obtain ⟨v0, vs0, d0, ds0, p0, q0, hargs, rfl, rfl, h0, r0⟩ := trodAll_cons hA
  obtain ⟨rfl, rfl, rfl⟩ := trodAll_nil r0
  obtain rfl : args = #[v0] := by cases args; simp_all
  obtain ⟨a0, rfl, rfl, rfl, w0⟩ := open_string Tryd.underlying9 (hval 0 9 v0 rfl rfl) h0
  clear hA0 hval0
  refine (walk a0 m W w0 hm).mono fun e W' ⟨he, bel⟩ => ?_
  subst he
  exact ⟨_, rfl, _, _, _, [], _, [], hW', trodAll_mk1 (shut_bool Tryd.underlying4 _), (trodAll_cons_mk (shut_string Tryd.underlying9 w0) trodAll_mk0), rfl, bel.frame _, fun h => by cases h⟩

theorem over : Rows.labelMasksRow.holds Tryd.pinned (OpenSpec.ofChange Rows.labelMasksSpec) :=
  OpenClaim.holds_of_wide 5 Tryd.f5 rfl rfl rfl rfl rfl rfl rfl ⟨rfl, rfl, rfl, rfl, rfl⟩ rfl rfl rfl rfl rfl (by kernel_rfl) Tryd.func5 (by kernel_rfl)
    (of_decide_eq_true (by kernel_rfl)) (by unfold Func.isWrapper; first | (rw [if_pos (by decide +kernel)]; kernel_rfl) | (rw [if_neg (by decide +kernel)]; exact ⟨rfl, rfl⟩))
    (fun os started H enc _ => lifted os started H enc)

/-- the statement -/
theorem proved : Rows.LabelMasksCardSaid :=
  Claim7.holds_tied_plain_at .later [] [.data, .pinned] true Rows.labelMasksCard.stood.harness false over (fun _ h => by cases h) (by kernel_rfl) (fun _ h => by cases h) labelMasks_row_tie rfl ⟨rfl, rfl⟩ (by kernel_rfl) rfl
    (fun f fn hf hfn => by
      obtain rfl : f = 5 := Option.some.inj ((show Tryd.prog.funcNamed Rows.labelMasksRow.func = some 5 by kernel_rfl).symm.trans hf) |>.symm
      obtain rfl : fn = Tryd.f5 := (Option.some.inj (Tryd.func5.symm.trans hfn)).symm
      exact ⟨by kernel_rfl, fun j t ht => by
        rw [Tryd.params5] at ht
        have hm : t ∈ [9] := by simpa using Array.mem_of_getElem? ht
        have hall : ([9].all fun u => !Tryd.prog.wantsStandIn u) = true := by kernel_rfl
        exact (show Tryd.prog.wantsStandIn t = false by simpa using List.all_eq_true.1 hall t hm)⟩)
    (by kernel_rfl)
#print axioms proved
end Go.Proofs.YtcnpgoblojmbmaaDoor.labelMasks
