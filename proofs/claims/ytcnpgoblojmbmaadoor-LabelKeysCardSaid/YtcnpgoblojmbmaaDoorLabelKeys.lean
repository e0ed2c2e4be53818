/-
  The statement LabelKeysCardSaid: for every input the law function LabelKeys returns true (the key of any names, and the names of any key, are the document's own answers; a key's names are those that it was made of), and the arguments read afterwards as before.
  Conditions: none beyond the statement's own (two tables of the library's hold what its text lays; the proof does not read them).
-/
import Derived.Test.YtcnpgoblojmbmaaDoorCards
import Derived.Test.YtcnpgoblojmbmaaDoorTie
import Derived.Test.YtcnpgoblojmbmaaDoorFrame
import Derived.Test.YtcnpgoblojmbmaaDoorLabKeysWalk
import Derived.ProofKit
import Derived.OpenShut
import Derived.ShutString
import Derived.SliceStrings
import Derived.LaidMore
import Derived.Lay
import Derived.Shelf.Vars
import Derived.Stop.Joined
namespace Go.Proofs.YtcnpgoblojmbmaaDoor.labelKeys
open Go.ChangeShapes Go.WideShapes Go.ChangeAt Go.RowKit
open Go.ChangeMaps (open_string shut_string)

theorem own : ownKnob Tryd.prog.godebug = none := by kernel_rfl
theorem laidOut : laidOutB Tryd.prog = true := by kernel_rfl

/-- a row of texts that came in: there is none, or it lies in memory -/
def IsStrs (w : World) (a : Option Addr) (len cap : Nat) : Prop :=
  (a = none ∧ len = 0 ∧ cap = 0) ∨
  ∃ (x : Addr) (ss : List ByteArray), a = some x ∧ len ≤ cap ∧ cap ≤ maxLen ∧ ss.length = cap ∧ (∀ i, i < ss.length → w.cell? (x.add i) = some (.string (ss.getD i ByteArray.empty))) ∧ ∀ s ∈ ss, s.size ≤ maxLen

set_option maxHeartbeats 4000000 in
set_option maxRecDepth 1000000 in
theorem walk_long (a : Option Addr) (len cap : Nat) (key : ByteArray) (m : Int) (w : World) (hlen : 12 < len) (hl : len ≤ 9223372036854775807) (hm : w.cell? ⟨0, 0, none⟩ = some (.int .i64 m)) :
    Calls Tryd.prog 4 #[.slice a len cap, .string key] w fun e w' => e = .returned (.bool true) ∧ Below w.heap.size w w' := by
  have C0 := Lib.hid (awake_any m w hm)
  clear hm
  go_enter Tryd.func4, Tryd.ntmps4
  go_wp2_with (go_at_call 7; (refine (C0.out).mono ?_); rintro e W1 ⟨rfl, b1⟩)
  go_ret
  exact ⟨rfl, b1⟩
set_option maxHeartbeats 4000000 in
set_option maxRecDepth 1000000 in
theorem walk_key (a : Option Addr) (len cap : Nat) (key : ByteArray) (m : Int) (w : World) (hlen : len ≤ 12) (hk : 300 < key.size) (hl : key.size ≤ 9223372036854775807) (hm : w.cell? ⟨0, 0, none⟩ = some (.int .i64 m)) :
    Calls Tryd.prog 4 #[.slice a len cap, .string key] w fun e w' => e = .returned (.bool true) ∧ Below w.heap.size w w' := by
  have C0 := Lib.hid (awake_any m w hm)
  clear hm
  go_enter Tryd.func4, Tryd.ntmps4
  go_wp2_with (go_at_call 7; (refine (C0.out).mono ?_); rintro e W1 ⟨rfl, b1⟩)
  go_ret
  exact ⟨rfl, b1⟩

theorem walk (a : Option Addr) (len cap : Nat) (key : ByteArray) (m : Int) (w : World) (ha : IsStrs w a len cap) (wk : key.size ≤ maxLen) (hm : w.cell? ⟨0, 0, none⟩ = some (.int .i64 m)) :
    Calls Tryd.prog 4 #[.slice a len cap, .string key] w fun e w' => e = .returned (.bool true) ∧ Below w.heap.size w w' := by
  unfold maxLen at wk
  by_cases h12 : 12 < len
  · refine walk_long a len cap key m w h12 ?_ hm
    rcases ha with ⟨_, h, _⟩ | ⟨x, ss, _, h, h', _⟩
    · omega
    · unfold maxLen at h'; omega
  by_cases h300 : 300 < key.size
  · exact walk_key a len cap key m w (by omega) h300 (by omega) hm
  by_cases h0 : len = 0
  · subst h0
    cases hkr : rowB (pieces [] key.data.toList) with
    | false => exact keys_nil_no a cap key m w (by omega) hm hkr
    | true => exact keys_nil_yes a cap key m w (by omega) hm hkr
  rcases ha with ⟨_, h, _⟩ | ⟨x, ss, rfl, hl, hcap, hss, hcell, hsz⟩
  · exact absurd h h0
  obtain ⟨b, off, spot⟩ := x
  have hspot : spot = none := by simpa [Addr.add] using World.cell?_spot (hcell 0 (by omega))
  subst hspot
  have hlen : (ss.take len).length = len := by rw [List.length_take]; omega
  have hb : b < w.heap.size := by
    have h := hcell 0 (by omega)
    rcases Nat.lt_or_ge b w.heap.size with h' | h'
    · exact h'
    · unfold World.cell? at h
      rw [show ((⟨b, off, none⟩ : Addr).add 0).block = b from rfl, Array.getElem?_eq_none h'] at h
      cases h
  have hL : LiesAt w b off (ss.take len) := by
    refine ⟨hb, fun j x hx => ?_⟩
    have hj : j < (ss.take len).length := (List.getElem?_eq_some_iff.1 hx).1
    rw [List.getElem?_take, if_pos (by omega)] at hx
    have h := hcell j (by omega)
    rw [Go.WideShapes.add_plain, List.getD_eq_getElem?_getD, hx] at h
    exact h
  have hxm : ∀ x ∈ ss.take len, x.size ≤ 9223372036854775807 := fun x hx => by
    have := hsz x (List.mem_of_mem_take hx)
    unfold maxLen at this
    omega
  cases hr : rowB (texts (ss.take len)) with
  | false =>
    cases hkr : rowB (pieces [] key.data.toList) with
    | false => exact keys_row_no_no _ len b off cap key m w hlen (by omega) (by omega) hl hL hxm (by omega) hm hr hkr
    | true => exact keys_row_no_yes _ len b off cap key m w hlen (by omega) (by omega) hl hL hxm (by omega) hm hr hkr
  | true =>
    cases hkr : rowB (pieces [] key.data.toList) with
    | false => exact keys_row_yes_no _ len b off cap key m w hlen (by omega) (by omega) hl hL hxm (by omega) hm hr hkr
    | true => exact keys_row_yes_yes _ len b off cap key m w hlen (by omega) (by omega) hl hL hxm (by omega) hm hr hkr

set_option maxRecDepth 100000 in
theorem lifted (os : Os) (started : os.Started) (H : Type) (enc : TypeId × Value → H) :
    ReturnsInHanded {} Tryd.checked os 4 .any (fun w args => (Rows.labelKeysSpec.pre enc Tryd.prog Tryd.f4 Rows.labelKeysRow.domain false w args ∧ laidMetH Tryd.prog Rows.labelKeysRow.laid w) ∧ sizedMet enc Tryd.prog Tryd.f4 (OpenSpec.ofChange Rows.labelKeysSpec) false w args)
      (Rows.labelKeysSpec.post enc Tryd.prog Tryd.f4 false true false false) := by
  refine returns_both (C := Tryd.checked) (X := fun w _ => laidMetH Tryd.prog Rows.labelKeysRow.laid w) (fun _ _ _ hh h => h.of_heap hh) own started (by kernel_rfl) Tryd.func4
    (ChangeSpec.witness_shaped (enc := enc) (C := Tryd.checked) (os := os) (X := fun w _ => laidMetH Tryd.prog Rows.labelKeysRow.laid w) false (World.laidAll Tryd.prog os Rows.labelKeysRow.laid) #[.slice none 0 0, .string ⟨#[]⟩] 8 (World.laidAll_os _ _ _)
      (World.shaped_of_ZipB (by kernel_rfl) (by kernel_rfl)) (by kernel_rfl) (by kernel_rfl) (by kernel_rfl)
      (by rw [MakeChecks.laidMetH_plain _ _ _ (by kernel_rfl)]; exact laidMet_laidAll _ (by kernel_rfl) (by kernel_rfl))) ?_
  intro W base args ds gs before hval0 hW _ _ hsh
  have hval : ∀ (j : Nat) t v, Tryd.f4.params[j]? = some t → args[j]? = some v → Value.okWide Tryd.prog W .any base t v := hval0
  have hW' := hW
  obtain ⟨p, q, hA0, hV, rfl, _, _⟩ := hW
  have hA : DataW.TrodAll enc Tryd.prog W 0 (fun _ => true) true Tryd.f4.params.toList args.toList ds p := hA0
  rw [Tryd.params4] at hA hval
  obtain ⟨rfl, rfl⟩ := trodVars_none hV
  obtain ⟨m, hm⟩ := cell_of_shapedOpen_int (P := Tryd.prog) (g := 0) (t := 3) (zero := #[.int .i64 0]) hsh (of_decide_eq_true (by kernel_rfl)) (by kernel_rfl) rfl (by kernel_rfl) (by kernel_rfl) Tryd.underlying3
  obtain ⟨v0, vs0, d0, ds0, p0, q0, hargs, rfl, rfl, h0, r0⟩ := trodAll_cons hA
  obtain ⟨v1, vs1, d1, ds1, p1, q1, rfl, rfl, rfl, h1, r1⟩ := trodAll_cons r0
  obtain ⟨rfl, rfl, rfl⟩ := trodAll_nil r1
  obtain rfl : args = #[v0, v1] := by cases args; simp_all
  obtain ⟨a0, len0, cap0, rfl⟩ := okWide_slice Tryd.underlying26 (hval 0 26 v0 rfl rfl)
  have k0 := h0
  have lt0 : ∀ x ∈ p0, x.block < W.heap.size := by obtain ⟨m, hm⟩ := k0; exact DataW.trod_lt m _ _ _ hm
  have w0 : IsStrs W a0 len0 cap0 := by
    obtain ⟨fuel, hf⟩ := h0
    rcases open_strings Tryd.underlying26 Tryd.underlying9 (by kernel_rfl) hf with ⟨hcs, _⟩ | ⟨x, l, c, ss, hcs, _, hl, hm, hz, _, hcell, hws⟩
    · simp [Value.cells] at hcs
      obtain ⟨rfl, rfl, rfl⟩ := hcs
      exact .inl ⟨rfl, rfl, rfl⟩
    · simp [Value.cells] at hcs
      obtain ⟨rfl, rfl, rfl⟩ := hcs
      exact .inr ⟨x, ss, rfl, hl, hm, by simpa using hz, hcell, hws⟩
  obtain ⟨a1, rfl, rfl, rfl, w1⟩ := open_string Tryd.underlying9 (hval 1 9 v1 rfl rfl) h1
  clear hA0 hval0
  refine (walk a0 len0 cap0 a1 m W w0 w1 hm).mono fun e W' ⟨he, bel⟩ => ?_
  subst he
  exact ⟨_, rfl, _, _, _, [], _, [], hW', trodAll_mk1 (shut_bool Tryd.underlying4 _), (trodAll_cons_mk (Below.trod laidOut (by kernel_rfl) (of_decide_eq_true (by kernel_rfl)) k0 bel lt0) (trodAll_cons_mk (shut_string Tryd.underlying9 w1) trodAll_mk0)), rfl, bel.frame _, fun h => by cases h⟩

theorem over : Rows.labelKeysRow.holds Tryd.pinned (OpenSpec.ofChange Rows.labelKeysSpec) :=
  OpenClaim.holds_of_wide 4 Tryd.f4 rfl rfl rfl rfl rfl rfl rfl ⟨rfl, rfl, rfl, rfl, rfl⟩ rfl rfl rfl rfl rfl (by kernel_rfl) Tryd.func4 (by kernel_rfl)
    (of_decide_eq_true (by kernel_rfl)) (by unfold Func.isWrapper; first | (rw [if_pos (by decide +kernel)]; kernel_rfl) | (rw [if_neg (by decide +kernel)]; exact ⟨rfl, rfl⟩))
    (fun os started H enc _ => lifted os started H enc)

/-- the statement -/
theorem proved : Rows.LabelKeysCardSaid :=
  Claim7.holds_tied_plain_at .later [] [.data, .pinned] true Rows.labelKeysCard.stood.harness false over (fun _ h => by cases h) (by kernel_rfl) (fun _ h => by cases h) labelKeys_row_tie rfl ⟨rfl, rfl⟩ (by kernel_rfl) rfl
    (fun f fn hf hfn => by
      obtain rfl : f = 4 := Option.some.inj ((show Tryd.prog.funcNamed Rows.labelKeysRow.func = some 4 by kernel_rfl).symm.trans hf) |>.symm
      obtain rfl : fn = Tryd.f4 := (Option.some.inj (Tryd.func4.symm.trans hfn)).symm
      exact ⟨by kernel_rfl, fun j t ht => by
        rw [Tryd.params4] at ht
        have hm : t ∈ [26, 9] := by simpa using Array.mem_of_getElem? ht
        have hall : ([26, 9].all fun u => !Tryd.prog.wantsStandIn u) = true := by kernel_rfl
        exact (show Tryd.prog.wantsStandIn t = false by simpa using List.all_eq_true.1 hall t hm)⟩)
    (by kernel_rfl)
#print axioms proved
end Go.Proofs.YtcnpgoblojmbmaaDoor.labelKeys
