/-
  The statement WalNamesCardSaid: for every input the law function WalNames returns true (a segment's name tells its number, and no other text does), and the arguments read afterwards as before.
  Conditions: none beyond the statement's own (the listed tables of the library hold what its text lays).
-/
import Derived.Test.YtohnhboeipckjaaGreatDoorWalLaw
namespace Go.Proofs.YtohnhboeipckjaaGreatDoor.walNames
open Go.ChangeShapes Go.WideShapes Go.ChangeAt Go.RowKit
open Go.ChangeMaps (open_string shut_string)

theorem str_of (s : ByteArray) : ∃ l : List UInt8, s = ⟨l.toArray⟩ := ⟨s.data.toList, by cases s; simp⟩

set_option maxHeartbeats 4000000 in
set_option maxRecDepth 1000000 in
theorem walk (n : Int) (l : List UInt8) (w : World) (h0 : -9223372036854775808 ≤ n) (h1 : n ≤ 9223372036854775807) (ws : l.length ≤ 9223372036854775807) (hT : Lib.TabIs Tryz.prog w "internal/strconv.uint64pow10" .u64 Lib.pow10Tab) :
    Calls Tryz.prog 5 #[.int .i64 n, .string ⟨l.toArray⟩] w fun e w' => e = .returned (.bool true) ∧ Below w.heap.size w w' := by
  have HA := Lib.hid (walAwake_any w hT)
  have HT := Lib.hid (Tab.of hT)
  clear hT
  by_cases hl : 40 < l.length
  · go_enter Tryz.func5, Tryz.ntmps5
    go_wp2_with (go_at_call 8; (with_reducible refine HA.out.mono ?_); rintro e W1 ⟨rfl, b1⟩)
    go_ret
    exact ⟨rfl, b1⟩
  have HNM : ∀ W1, Below w.heap.size w W1 → ∀ k : Int, -9223372036854775808 ≤ k → k ≤ 9223372036854775807 → Hid (Calls Tryz.prog 18 #[.int .i64 k] W1 fun e w' => e = .returned (.string ⟨(nameI k).toArray⟩) ∧ Below w.heap.size w w') := fun W1 hb k hk1 hk2 => Lib.hid ((name_any k _ W1 (HT.out.below hb) hk1 hk2).mono fun e w' ⟨he, hb2⟩ => ⟨he, hb.trans (hb2.mono hb.size)⟩)
  have HNU : ∀ W1, Below w.heap.size w W1 → ∀ t : List UInt8, t.length ≤ 1099511627776 → Hid (Calls Tryz.prog 22 #[.string ⟨t.toArray⟩] W1 fun e w' => e = .returned (.int .i64 (numL t : Int)) ∧ Below w.heap.size w w') := fun W1 hb t ht => Lib.hid ((number_any ⟨t.toArray⟩ W1 (by show t.toArray.size ≤ _; rw [List.size_toArray]; exact ht)).mono fun e w' ⟨he, hb2⟩ => ⟨he, hb.trans (hb2.mono hb.size)⟩)
  by_cases hn : n < 1 ∨ 1073741824 < n
  · have hne : nameI n = [] := by unfold nameI; rw [if_neg (by omega)]
    have H1 : ∀ W1, Below w.heap.size w W1 → Hid (Calls Tryz.prog 18 #[.int .i64 n] W1 fun e w' => e = .returned (.string ⟨#[]⟩) ∧ Below w.heap.size w w') := fun W1 hb => Lib.hid (by
      have h := (HNM W1 hb n h0 h1).out
      rw [hne] at h
      exact h)
    clear hne HNM HNU
    rcases hn with hn | hn
    · go_enter Tryz.func5, Tryz.ntmps5
      go_wp2_with (first
        | (go_at_call 8; (with_reducible refine HA.out.mono ?_); rintro e W1 ⟨rfl, b1⟩)
        | (go_at_call 18; (with_reducible refine (H1 _ b1).out.mono ?_); rintro e W2 ⟨rfl, b2⟩))
      go_ret
      exact ⟨rfl, b2⟩
    · have hn1 : ¬ n < 1 := by omega
      go_enter Tryz.func5, Tryz.ntmps5
      go_wp2_with (first
        | (go_at_call 8; (with_reducible refine HA.out.mono ?_); rintro e W1 ⟨rfl, b1⟩)
        | (go_at_call 18; (with_reducible refine (H1 _ b1).out.mono ?_); rintro e W2 ⟨rfl, b2⟩))
      go_ret
      exact ⟨rfl, b2⟩
  · obtain ⟨N, rfl⟩ : ∃ N : Nat, n = (N : Int) := ⟨n.toNat, by omega⟩
    have hok : okN N := ⟨by omega, by omega⟩
    have hlen := seg_len hok
    have H1 : ∀ W1, Below w.heap.size w W1 → Hid (Calls Tryz.prog 18 #[.int .i64 (N : Int)] W1 fun e w' => e = .returned (.string ⟨(segL N).toArray⟩) ∧ Below w.heap.size w w') := fun W1 hb => Lib.hid (by
      have h := (HNM W1 hb N h0 h1).out
      rw [nameI_ok hok] at h
      exact h)
    have H2 : ∀ W1, Below w.heap.size w W1 → Hid (Calls Tryz.prog 22 #[.string ⟨(segL N).toArray⟩] W1 fun e w' => e = .returned (.int .i64 (N : Int)) ∧ Below w.heap.size w w') := fun W1 hb => Lib.hid (by
      have h := (HNU W1 hb (segL N) (by omega)).out
      rw [num_seg hok] at h
      exact h)
    have H3 : ∀ W1, Below w.heap.size w W1 → Hid (Calls Tryz.prog 22 #[.string ⟨l.toArray⟩] W1 fun e w' => e = .returned (.int .i64 (numL l : Int)) ∧ Below w.heap.size w w') := fun W1 hb => HNU W1 hb l (by omega)
    have hn1 : ¬ (N : Int) < 1 := by omega
    have hn2 : ¬ (1073741824 : Int) < (N : Int) := by omega
    have h2m : (2 : Int) ≤ ((segL N).length : Int) := by omega
    by_cases hk : numL l = 0
    · have hne : (l == segL N) = false := by
        have : l ≠ segL N := fun e => by rw [e, num_seg hok] at hk; have := hok.1; omega
        simpa using this
      have hkn : ((0 : Int) == (N : Int)) = false := by simp; omega
      rw [hk] at H3
      clear hk hok hn HNM HNU
      generalize segL N = m at *
      go_enter Tryz.func5, Tryz.ntmps5
      go_wp2_with (first
        | (go_at_call 8; (with_reducible refine HA.out.mono ?_); rintro e W1 ⟨rfl, b1⟩)
        | (go_at_call 18; (with_reducible refine (H1 _ b1).out.mono ?_); rintro e W2 ⟨rfl, b2⟩)
        | (go_at_call 22; (with_reducible refine (H2 _ b3).out.mono ?_); rintro e W4 ⟨rfl, b4⟩)
        | (go_at_call 22; (with_reducible refine (H3 _ b2).out.mono ?_); rintro e W3 ⟨rfl, b3⟩))
      go_ret
      exact ⟨rfl, b4⟩
    · obtain ⟨hls, hokk⟩ := seg_num hk
      obtain ⟨K, hK⟩ : ∃ K, K = numL l := ⟨_, rfl⟩
      rw [← hK] at hls hokk H3 hk
      have H4 : ∀ W1, Below w.heap.size w W1 → Hid (Calls Tryz.prog 18 #[.int .i64 (K : Int)] W1 fun e w' => e = .returned (.string ⟨l.toArray⟩) ∧ Below w.heap.size w w') := fun W1 hb => Lib.hid (by
        have h := (HNM W1 hb K (by omega) (by have := hokk.2; omega)).out
        rw [nameI_ok hokk, ← hls] at h
        exact h)
      have hk0 : ((K : Int) == 0) = false := by simp; omega
      have hll : (l == l) = true := by simp
      have hbk : 1 ≤ K ∧ K ≤ 1073741824 := hokk
      by_cases hKN : K = N
      · have hne : (l == segL N) = true := by rw [← hKN, ← hls]; simp
        have hkn : ((K : Int) == (N : Int)) = true := by simp; omega
        clear hk hok hn HNM HNU hls hokk hK hKN
        generalize segL N = m at *
        go_enter Tryz.func5, Tryz.ntmps5
        go_wp2_with (first
          | (go_at_call 8; (with_reducible refine HA.out.mono ?_); rintro e W1 ⟨rfl, b1⟩)
          | (go_at_call 18; (with_reducible refine (H4 _ b4).out.mono ?_); rintro e W5 ⟨rfl, b5⟩)
          | (go_at_call 18; (with_reducible refine (H1 _ b1).out.mono ?_); rintro e W2 ⟨rfl, b2⟩)
          | (go_at_call 22; (with_reducible refine (H2 _ b3).out.mono ?_); rintro e W4 ⟨rfl, b4⟩)
          | (go_at_call 22; (with_reducible refine (H3 _ b2).out.mono ?_); rintro e W3 ⟨rfl, b3⟩))
        go_ret
        exact ⟨rfl, b5⟩
      · have hne : (l == segL N) = false := by
          have : l ≠ segL N := fun e => hKN (seg_inj hokk hok (by rw [← hls]; exact e))
          simpa using this
        have hkn : ((K : Int) == (N : Int)) = false := by simp; omega
        clear hk hok hn HNM HNU hls hokk hK hKN
        generalize segL N = m at *
        go_enter Tryz.func5, Tryz.ntmps5
        go_wp2_with (first
          | (go_at_call 8; (with_reducible refine HA.out.mono ?_); rintro e W1 ⟨rfl, b1⟩)
          | (go_at_call 18; (with_reducible refine (H4 _ b4).out.mono ?_); rintro e W5 ⟨rfl, b5⟩)
          | (go_at_call 18; (with_reducible refine (H1 _ b1).out.mono ?_); rintro e W2 ⟨rfl, b2⟩)
          | (go_at_call 22; (with_reducible refine (H2 _ b3).out.mono ?_); rintro e W4 ⟨rfl, b4⟩)
          | (go_at_call 22; (with_reducible refine (H3 _ b2).out.mono ?_); rintro e W3 ⟨rfl, b3⟩))
        go_ret
        exact ⟨rfl, b5⟩

set_option maxRecDepth 100000 in
theorem lifted (os : Os) (started : os.Started) (H : Type) (enc : TypeId × Value → H) :
    ReturnsInHanded {} Tryz.checked os 5 .any (fun w args => (Rows.walNamesSpec.pre enc Tryz.prog Tryz.f5 Rows.walNamesRow.domain false w args ∧ laidMetH Tryz.prog Rows.walNamesRow.laid w) ∧ sizedMet enc Tryz.prog Tryz.f5 (OpenSpec.ofChange Rows.walNamesSpec) false w args)
      (Rows.walNamesSpec.post enc Tryz.prog Tryz.f5 false true false false) := by
  refine returns_both (C := Tryz.checked) (X := fun w _ => laidMetH Tryz.prog Rows.walNamesRow.laid w) (fun _ _ _ hh h => h.of_heap hh) own started (by kernel_rfl) Tryz.func5
    (ChangeSpec.witness_shaped (enc := enc) (C := Tryz.checked) (os := os) (X := fun w _ => laidMetH Tryz.prog Rows.walNamesRow.laid w) false (World.laidAll Tryz.prog os Rows.walNamesRow.laid) #[.int .i64 0, .string ⟨#[]⟩] 8 (World.laidAll_os _ _ _)
      (World.shaped_of_ZipB (by kernel_rfl) (by kernel_rfl)) (by kernel_rfl) (by kernel_rfl) (by kernel_rfl)
      (by rw [MakeChecks.laidMetH_plain _ _ _ (by kernel_rfl)]; exact laidMet_laidAll _ (by kernel_rfl) (by kernel_rfl))) ?_
  intro W base args ds gs before hval0 hW _ hlaid hsh
  have hval : ∀ (j : Nat) t v, Tryz.f5.params[j]? = some t → args[j]? = some v → Value.okWide Tryz.prog W .any base t v := hval0
  have hW' := hW
  obtain ⟨p, q, hA0, hV, rfl, _, _⟩ := hW
  have hA : DataW.TrodAll enc Tryz.prog W 0 (fun _ => true) true Tryz.f5.params.toList args.toList ds p := hA0
  rw [Tryz.params5] at hA hval
  obtain ⟨rfl, rfl⟩ := trodVars_none hV
  obtain ⟨v0, vs0, d0, ds0, p0, q0, hargs, rfl, rfl, h0, r0⟩ := trodAll_cons hA
  obtain ⟨v1, vs1, d1, ds1, p1, q1, rfl, rfl, rfl, h1, r1⟩ := trodAll_cons r0
  obtain ⟨rfl, rfl, rfl⟩ := trodAll_nil r1
  obtain rfl : args = #[v0, v1] := by cases args; simp_all
  obtain ⟨a0, rfl, rfl, rfl, w0⟩ := open_int Tryz.underlying3 (hval 0 3 v0 rfl rfl) h0
  obtain ⟨a1, rfl, rfl, rfl, w1⟩ := open_string Tryz.underlying9 (hval 1 9 v1 rfl rfl) h1
  clear hA0 hval0
  obtain ⟨l, rfl⟩ := str_of a1
  have hsz : l.length ≤ 9223372036854775807 := by
    have h : l.toArray.size ≤ maxLen := w1
    rw [List.size_toArray] at h
    unfold maxLen at h
    omega
  have hb0 := int_wf w0
  refine (walk a0 l W hb0.1 hb0.2 hsz (tab_of_laid hlaid)).mono fun e W' ⟨he, bel⟩ => ?_
  subst he
  exact ⟨_, rfl, _, _, _, [], _, [], hW', trodAll_mk1 (shut_bool Tryz.underlying4 _), (trodAll_cons_mk (shut_int Tryz.underlying3 w0) (trodAll_cons_mk (shut_string Tryz.underlying9 w1) trodAll_mk0)), rfl, bel.frame _, fun h => by cases h⟩

theorem over : Rows.walNamesRow.holds Tryz.pinned (OpenSpec.ofChange Rows.walNamesSpec) :=
  OpenClaim.holds_of_wide 5 Tryz.f5 rfl rfl rfl rfl rfl rfl rfl ⟨rfl, rfl, rfl, rfl, rfl⟩ rfl rfl rfl rfl rfl (by kernel_rfl) Tryz.func5 (by kernel_rfl)
    (of_decide_eq_true (by kernel_rfl)) (by unfold Func.isWrapper; first | (rw [if_pos (by decide +kernel)]; kernel_rfl) | (rw [if_neg (by decide +kernel)]; exact ⟨rfl, rfl⟩))
    (fun os started H enc _ => lifted os started H enc)

/-- the statement -/
theorem proved : Rows.WalNamesCardSaid :=
  Claim7.holds_tied_plain_at .later [] [.data, .data, .data] true Rows.walNamesCard.stood.harness false over (fun _ h => by cases h) (by kernel_rfl) (fun _ h => by cases h) walNames_row_tie rfl ⟨rfl, rfl⟩ (by kernel_rfl) rfl
    (fun f fn hf hfn => by
      obtain rfl : f = 5 := Option.some.inj ((show Tryz.prog.funcNamed Rows.walNamesRow.func = some 5 by kernel_rfl).symm.trans hf) |>.symm
      obtain rfl : fn = Tryz.f5 := (Option.some.inj (Tryz.func5.symm.trans hfn)).symm
      exact ⟨by kernel_rfl, fun j t ht => by
        rw [Tryz.params5] at ht
        have hm : t ∈ [3, 9] := by simpa using Array.mem_of_getElem? ht
        have hall : ([3, 9].all fun u => !Tryz.prog.wantsStandIn u) = true := by kernel_rfl
        exact (show Tryz.prog.wantsStandIn t = false by simpa using List.all_eq_true.1 hall t hm)⟩)
    (by kernel_rfl)
#print axioms proved
end Go.Proofs.YtohnhboeipckjaaGreatDoor.walNames
