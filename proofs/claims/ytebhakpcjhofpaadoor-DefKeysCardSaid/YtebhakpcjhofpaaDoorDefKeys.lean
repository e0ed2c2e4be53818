/-
  The statement DefKeysCardSaid: for every input the law function DefKeys returns true (the key of any command, and what any text is the key of, is as the document says; a right command's key tells what it was made of), and the arguments read afterwards as before.
  Conditions: none beyond the statement's own (the listed tables of the library hold what its text lays).
-/
import Derived.Test.YtebhakpcjhofpaaDoorDefRCheck
import Derived.Test.YtebhakpcjhofpaaDoorDefRKey
import Derived.Test.YtebhakpcjhofpaaDoorDefRead
import Derived.Test.YtebhakpcjhofpaaDoorDefAwake
namespace Go.Proofs.YtebhakpcjhofpaaDoor.defKeys
open Go.Proofs.YtebhakpcjhofpaaDoor.Df Go.Proofs.YtebhakpcjhofpaaDoor.El
open Go.Proofs.YtebhakpcjhofpaaDoor.Bo (P Made ret_int ret_bool)
open Go.ChangeShapes Go.WideShapes Go.ChangeAt Go.RowKit
open Go.ChangeMaps (open_string shut_string)
open Go.Lib (decDigits nDigits)

theorem int_hi {x : Int} (h : (Lit.int .i64 x).wf = true) : x ≤ 9223372036854775807 := by
  have h2 : IntKind.i64.max = 9223372036854775807 := rfl
  simp only [Lit.wf, Bool.and_eq_true, decide_eq_true_eq] at h
  omega
theorem digits_le : ∀ (k u : Nat), u < 10 ^ (k + 1) → nDigits u ≤ k + 1
  | 0, u, h => by rw [Go.Lib.nDigits_small (by simpa using h)]; exact Nat.le_refl _
  | k + 1, u, h => by
    by_cases h9 : u < 10
    · rw [Go.Lib.nDigits_small h9]; omega
    · rw [Go.Lib.nDigits_big h9]
      have := digits_le k (u / 10) (by rw [Nat.pow_succ] at h; omega)
      omega
/-- the key of a right command tells what it was made of -/
theorem key_of {saga step : Int} {ss : List Stp} {un : Bool} (h : keyL saga step ss un ≠ []) (h18 : saga < 1000000000000000000) (hn : ∀ (i : Nat) (s : Stp), ss[i]? = some s → nameB s.nm.data.toList = true) :
    ∃ (k : Nat) (x : Stp), 0 ≤ saga ∧ step = (k : Int) ∧ ss[k]? = some x ∧ KeyOf (keyL saga step ss un) saga.toNat x.nm.data.toList un := by
  by_cases hneg : saga < 0 ∨ step < 0
  · exact absurd (keyL_neg hneg) h
  · obtain ⟨k, rfl⟩ : ∃ k : Nat, step = (k : Int) := ⟨step.toNat, by omega⟩
    cases hx : ss[k]? with
    | none => exact absurd (keyL_far (List.getElem?_eq_none_iff.1 hx)) h
    | some x =>
      refine ⟨k, x, by omega, rfl, hx, decDigits saga.toNat, ⟨rfl, ?_⟩, hn k x hx, keyL_at (by omega) hx⟩
      rw [Go.Lib.decDigits_length]
      exact digits_le 17 _ (show saga.toNat < 1000000000000000000 by omega)
theorem key_size (saga step : Int) (ss : List Stp) (un : Bool) (hg : saga ≤ 9223372036854775807) (hs : ∀ s ∈ ss, s.nm.size ≤ 100) : (keyL saga step ss un).length ≤ 200 := by
  unfold keyL
  split
  · simp
  · split
    · simp
    · next x hx =>
      have h1 := hs x (List.mem_of_getElem? hx)
      have h2 := dec_size saga.toNat (by omega)
      have h3 : (way un).length ≤ 4 := by cases un <;> decide
      simp only [List.length_append, List.length_cons, len_is]
      omega
set_option maxHeartbeats 4000000 in
set_option maxRecDepth 100000 in
theorem walk (nm0 : ByteArray) (dl0 : Int) (A0 : Option Addr) (c0 : Nat) (ss0 : List Stp) (saga step : Int) (un : Bool) (key : ByteArray) (m : Int) (w : World)
    (hm : w.cell? ⟨0, 0, none⟩ = some (.int .i64 m)) (hT : Tab w) (z0 : nm0.size ≤ 9223372036854775807) (l0 : ss0.length ≤ 9223372036854775807) (f0 : ∀ s ∈ ss0, s.Fits) (e0 : Df.Steps w w.heap.size A0 ss0) (hg : saga ≤ 9223372036854775807) (hk : key.size ≤ 9223372036854775807) :
    Calls Tryd.prog 4 #[.agg #[.string nm0, .int .i64 dl0, .slice A0 ss0.length c0], .int .i64 saga, .int .i64 step, .bool un, .string key] w fun e w' => e = .returned (.bool true) ∧ Below w.heap.size w w' := by
  obtain ⟨n0, hn0⟩ : ∃ n, n = ss0.length := ⟨_, rfl⟩
  rw [← hn0] at l0 ⊢
  have hwb : Hid (Below w.heap.size w (w.alloc (.cells #[.string nm0, .int .i64 dl0, .slice A0 n0 c0] 24))) := Lib.hid ((Below.refl _ w).alloc (Nat.le_refl _) _)
  have hz0 : (w.alloc (.cells #[.string nm0, .int .i64 dl0, .slice A0 n0 c0] 24)).heap.size = w.heap.size + 1 := by simp
  have hml := World.block_lt_of_cell? _ _ hm
  have HM : Hid (∀ w', Below w.heap.size w w' → w'.cell? ⟨0, 0, none⟩ = some (.int .i64 m)) := Lib.hid fun w' h => (h.cell hml).trans hm
  have HT := Lib.hid hT
  have HA : Hid (∀ w', Below w.heap.size w w' → Calls Tryd.prog 7 #[] w' fun e w'' => e = .returned (.bool true) ∧ Below w'.heap.size w' w'') := Lib.hid fun w' h => awake_any m w' (HM.out w' h) (tab_below hT h)
  have HS0 : Hid (∀ w', Below w.heap.size w w' → Calls Tryd.prog 8 #[.agg #[.string nm0, .int .i64 dl0, .slice A0 n0 c0]] w' fun e w'' => e = .returned (.int .i64 (smallI nm0 ss0)) ∧ Made w' w'') := Lib.hid fun w' h => small_any nm0 dl0 A0 c0 ss0 n0 w' hn0 l0 z0 f0 (e0.on h)
  have HB := Lib.hid (Below.refl (w.heap.size + 1) (w.alloc (.cells #[.string nm0, .int .i64 dl0, .slice A0 n0 c0] 24)))
  have E0 := Lib.hid e0
  have HN0 := Lib.hid hn0
  clear hm hT e0 hn0 f0 hml
  by_cases q0 : smallI nm0 ss0 = 0
  · rw [q0] at HS0
    by_cases hk2 : 200 < key.size
    · clear q0
      go_enter Tryd.func4, Tryd.ntmps4
      go_wp2_with (first
        | (go_at_call 7; (with_reducible refine (HA.out _ hwb.out).mono ?_); rintro e w1 ⟨rfl, hb⟩; have HB1 := Lib.hid (HB.out.trans (hb.mono (by omega))); clear hb; have HW1 := Lib.hid (hwb.out.trans (HB1.out.mono (by omega))); have x0 := Dc0 (dbox HB1.out); have x1 := Dc1 (dbox HB1.out); have x2 := Dc2 (dbox HB1.out))
        | (go_at_call 8; (with_reducible refine (HS0.out _ HW1.out).mono ?_); rintro e w2 ⟨rfl, hm⟩; have hb := hm.below; clear hm; have HB2 := Lib.hid (HB1.out.trans (hb.mono (by have := HB1.out.size; omega))); clear hb; have HW2 := Lib.hid (hwb.out.trans (HB2.out.mono (by omega))); have x0 := Dc0 (dbox HB2.out); have x1 := Dc1 (dbox HB2.out); have x2 := Dc2 (dbox HB2.out)))
      go_ret
      exact ⟨rfl, HW2.out⟩
    · obtain ⟨s40, snm, sst⟩ := small_yes q0
      have SST := Lib.hid sst
      obtain ⟨S, hS⟩ : ∃ S : ByteArray, S = ⟨(keyL saga step ss0 un).toArray⟩ := ⟨_, rfl⟩
      have HSd : Hid (S.data.toList = keyL saga step ss0 un) := Lib.hid (by rw [hS])
      have HSz : Hid (S.size ≤ 200) := Lib.hid (by rw [← len_is, HSd.out]; exact key_size _ _ _ _ hg (fun s hs => (SST.out s hs).1))
      have HK : Hid (∀ w', Below w.heap.size w w' → Calls Tryd.prog 16 #[.int .i64 saga, .agg #[.string nm0, .int .i64 dl0, .slice A0 n0 c0], .int .i64 step, .bool un] w' fun e w'' => e = .returned (.string S) ∧ Below w'.heap.size w' w'') := Lib.hid fun w' h => by
        rw [hS]
        exact key_any saga nm0 dl0 A0 c0 ss0 n0 step un w' HN0.out (fun s hs => by have := (SST.out s hs).1; omega) (E0.out.on h) (tab_below HT.out h) hg
      have HRK : Hid (∀ w', Below w.heap.size w w' → Calls Tryd.prog 18 #[.int .i64 saga, .agg #[.string nm0, .int .i64 dl0, .slice A0 n0 c0], .int .i64 step, .bool un] w' fun e w'' => e = .returned (.string S) ∧ Below w'.heap.size w' w'') := Lib.hid fun w' h => by
        rw [hS]
        exact rkey_any saga nm0 dl0 A0 c0 ss0 n0 step un w' HN0.out (fun s hs => by have := (SST.out s hs).1; omega) (E0.out.on h) hg
      have HC : Hid (∀ w', Below w.heap.size w w' → Calls Tryd.prog 17 #[.string key] w' (CutPost key w')) := Lib.hid fun w' h => cut_any key m w' (by omega) (HM.out w' h)
      have HRd : Hid (∀ w', Below w.heap.size w w' → Calls Tryd.prog 19 #[.string key] w' (ReadPost key w')) := Lib.hid fun w' _ => read_any key w' (by omega)
      have HRk : Hid (∀ w', Below w.heap.size w w' → Calls Tryd.prog 10 #[.agg #[.string nm0, .int .i64 dl0, .slice A0 n0 c0]] w' (ChkPost nm0 dl0 ss0 w')) := Lib.hid fun w' h => rcheck_any nm0 dl0 A0 c0 ss0 n0 w' HN0.out l0 (E0.out.on h) (by omega) (fun s hs => by have := SST.out s hs; omega)
      have L0 : n0 ≤ 40 := by have := HN0.out; omega
      have HSS := Lib.hid (show ∀ w', Below w.heap.size w w' → Calls Tryd.prog 17 #[.string S] w' (CutPost S w') from fun w' h => cut_any S m w' (by have := HSz.out; omega) (HM.out w' h))
      unfold CutPost at HC HSS
      unfold ReadPost at HRd
      unfold ChkPost at HRk
      clear q0 s40 snm sst l0 hS
      go_enter Tryd.func4, Tryd.ntmps4
      go_wp2_with (first
        | (go_at_call 7; (with_reducible refine (HA.out _ hwb.out).mono ?_); rintro e w1 ⟨rfl, hb⟩; have HB1 := Lib.hid (HB.out.trans (hb.mono (by omega))); clear hb; have HW1 := Lib.hid (hwb.out.trans (HB1.out.mono (by omega))); have x0 := Dc0 (dbox HB1.out); have x1 := Dc1 (dbox HB1.out); have x2 := Dc2 (dbox HB1.out))
        | (go_at_call 8; (with_reducible refine (HS0.out _ HW1.out).mono ?_); rintro e w2 ⟨rfl, hm⟩; have hb := hm.below; clear hm; have HB2 := Lib.hid (HB1.out.trans (hb.mono (by have := HB1.out.size; omega))); clear hb; have HW2 := Lib.hid (hwb.out.trans (HB2.out.mono (by omega))); have x0 := Dc0 (dbox HB2.out); have x1 := Dc1 (dbox HB2.out); have x2 := Dc2 (dbox HB2.out))
        | (go_at_call 16; (with_reducible refine (HK.out _ HW2.out).mono ?_); rintro e w3 ⟨rfl, hb⟩; have HB3 := Lib.hid (HB2.out.trans (hb.mono (by have := HB2.out.size; omega))); clear hb; have HW3 := Lib.hid (hwb.out.trans (HB3.out.mono (by omega))); have x0 := Dc0 (dbox HB3.out); have x1 := Dc1 (dbox HB3.out); have x2 := Dc2 (dbox HB3.out))
        | (go_at_call 17; (with_reducible refine (HC.out _ HW3.out).mono ?_); rintro e w4 ⟨n, x, u, ok, rfl, hc, hb⟩; have HCu := Lib.hid hc; clear hc; have HB4 := Lib.hid (HB3.out.trans (hb.mono (by have := HB3.out.size; omega))); clear hb; have HW4 := Lib.hid (hwb.out.trans (HB4.out.mono (by omega))); have x0 := Dc0 (dbox HB4.out); have x1 := Dc1 (dbox HB4.out); have x2 := Dc2 (dbox HB4.out))
        | (go_at_call 18; (with_reducible refine (HRK.out _ HW4.out).mono ?_); rintro e w5 ⟨rfl, hb⟩; have HB5 := Lib.hid (HB4.out.trans (hb.mono (by have := HB4.out.size; omega))); clear hb; have HW5 := Lib.hid (hwb.out.trans (HB5.out.mono (by omega))); have x0 := Dc0 (dbox HB5.out); have x1 := Dc1 (dbox HB5.out); have x2 := Dc2 (dbox HB5.out))
        | (go_at_call 19; (with_reducible refine (HRd.out _ HW5.out).mono ?_); rintro e w6 ⟨n', x', u', ok', rfl, hc, hb⟩; obtain ⟨rfl, rfl, rfl, rfl⟩ := cut_uniq hc HCu.out; clear hc; have HB6 := Lib.hid (HB5.out.trans (hb.mono (by have := HB5.out.size; omega))); clear hb; have HW6 := Lib.hid (hwb.out.trans (HB6.out.mono (by omega))); have x0 := Dc0 (dbox HB6.out); have x1 := Dc1 (dbox HB6.out); have x2 := Dc2 (dbox HB6.out)))
      (with_reducible refine (HRk.out _ HW6.out).mono ?_)
      rintro e w7 ⟨kk, ev, rfl, hck, hb⟩
      have HB7 := Lib.hid (HB6.out.trans (hb.mono (by have := HB6.out.size; omega)))
      have HW7 := Lib.hid (hwb.out.trans (HB7.out.mono (by omega)))
      have x2 := Dc2 (dbox HB7.out)
      clear hb
      by_cases hev : ev = 0
      · subst hev
        have HCk := Lib.hid hck
        clear hck
        by_cases hs0 : S.size = 0
        · have gs := toList_nil S hs0
          clear hs0
          go_wp2
          go_ret
          exact ⟨rfl, HW7.out⟩
        · have gs := toList_some S hs0
          by_cases h18 : 1000000000000000000 ≤ saga
          · clear hs0
            go_wp2
            go_ret
            exact ⟨rfl, HW7.out⟩
          · obtain ⟨k, x, hsg, rfl, hx, hof⟩ := key_of (saga := saga) (step := step) (ss := ss0) (un := un) (by rw [← HSd.out]; intro e; have := congrArg List.length e; rw [len_is] at this; exact hs0 this) (by omega) (fun i s h => chk_name HCk.out h)
            have HC2 : Hid (∀ w', Below w.heap.size w w' → Calls Tryd.prog 17 #[.string S] w' fun e w'' => e = .returned (.tuple #[.int .i64 saga, .string x.nm, .bool un, .bool true]) ∧ Below w'.heap.size w' w'') := Lib.hid fun w' h => (HSS.out w' h).mono fun e w'' ⟨n2, x2, u2, ok2, he, hc2, hb2⟩ => by
              obtain ⟨rfl, rfl, rfl, rfl⟩ := cut_uniq hc2 (.inl ⟨rfl, saga.toNat, by omega, by rw [HSd.out]; exact hof⟩ : CutIs S.data.toList saga x.nm un true)
              exact ⟨he, hb2⟩
            have hkn : k < n0 := by have := at_lt hx; have := HN0.out; omega
            obtain ⟨bb, oo, rfl, _⟩ := E0.out.at_ hx
            have CN : Hid (∀ w', Below w.heap.size w w' → w'.cell? ⟨bb, oo + k * 12, none⟩ = some (.string x.nm)) := Lib.hid fun w' h => (E0.out.on h).get hx 0 rfl
            clear hs0 hx hof
            go_wp2_with (first
              | (go_at_call 17; (with_reducible refine (HC2.out _ HW7.out).mono ?_); rintro e w8 ⟨rfl, hb⟩; have HB8 := Lib.hid (HB7.out.trans (hb.mono (by have := HB7.out.size; omega))); clear hb; have HW8 := Lib.hid (hwb.out.trans (HB8.out.mono (by omega))); have x0 := Dc0 (dbox HB8.out); have x1 := Dc1 (dbox HB8.out); have x2 := Dc2 (dbox HB8.out); have xn := (CN.out _ HW8.out)))
            go_ret
            exact ⟨rfl, HW8.out⟩
      · have gev : (ev != 0) = true := by simpa using hev
        clear hck hev
        go_wp2
        go_ret
        exact ⟨rfl, HW7.out⟩
  · have g0 : (smallI nm0 ss0 != 0) = true := by simpa using q0
    clear q0
    go_enter Tryd.func4, Tryd.ntmps4
    go_wp2_with (first
      | (go_at_call 7; (with_reducible refine (HA.out _ hwb.out).mono ?_); rintro e w1 ⟨rfl, hb⟩; have HB1 := Lib.hid (HB.out.trans (hb.mono (by omega))); clear hb; have HW1 := Lib.hid (hwb.out.trans (HB1.out.mono (by omega))); have x0 := Dc0 (dbox HB1.out); have x1 := Dc1 (dbox HB1.out); have x2 := Dc2 (dbox HB1.out))
      | (go_at_call 8; (with_reducible refine (HS0.out _ HW1.out).mono ?_); rintro e w2 ⟨rfl, hm⟩; have hb := hm.below; clear hm; have HB2 := Lib.hid (HB1.out.trans (hb.mono (by have := HB1.out.size; omega))); clear hb; have HW2 := Lib.hid (hwb.out.trans (HB2.out.mono (by omega))); have x0 := Dc0 (dbox HB2.out); have x1 := Dc1 (dbox HB2.out); have x2 := Dc2 (dbox HB2.out)))
    go_ret
    exact ⟨rfl, HW2.out⟩

set_option maxRecDepth 100000 in
theorem lifted (os : Os) (started : os.Started) (H : Type) (enc : TypeId × Value → H) :
    ReturnsInHanded {} Tryd.checked os 4 .any (fun w args => (Rows.defKeysSpec.pre enc Tryd.prog Tryd.f4 Rows.defKeysRow.domain false w args ∧ laidMetH Tryd.prog Rows.defKeysRow.laid w) ∧ sizedMet enc Tryd.prog Tryd.f4 (OpenSpec.ofChange Rows.defKeysSpec) false w args)
      (Rows.defKeysSpec.post enc Tryd.prog Tryd.f4 false true false false) := by
  refine returns_both (C := Tryd.checked) (X := fun w _ => laidMetH Tryd.prog Rows.defKeysRow.laid w) (fun _ _ _ hh h => h.of_heap hh) own started (by kernel_rfl) Tryd.func4
    (ChangeSpec.witness_shaped (enc := enc) (C := Tryd.checked) (os := os) (X := fun w _ => laidMetH Tryd.prog Rows.defKeysRow.laid w) false (World.laidAll Tryd.prog os Rows.defKeysRow.laid) #[.agg #[.string ⟨#[]⟩, .int .i64 0, .slice none 0 0], .int .i64 0, .int .i64 0, .bool false, .string ⟨#[]⟩] 8 (World.laidAll_os _ _ _)
      (World.shaped_of_ZipB (by kernel_rfl) (by kernel_rfl)) (by kernel_rfl) (by kernel_rfl) (by kernel_rfl)
      (by rw [MakeChecks.laidMetH_plain _ _ _ (by kernel_rfl)]; exact laidMet_laidAll _ (by kernel_rfl) (by kernel_rfl))) ?_
  intro W base args ds gs before hval0 hW _ hlaid hsh
  have hT : Tab W := tab_of_laid hlaid
  obtain ⟨m, hm⟩ := cell_of_shapedOpen_int (P := Tryd.prog) (g := 0) (t := 3) (zero := #[.int .i64 0]) hsh (of_decide_eq_true (by kernel_rfl)) (by kernel_rfl) rfl (by kernel_rfl) (by kernel_rfl) Tryd.underlying3
  have hval : ∀ (j : Nat) t v, Tryd.f4.params[j]? = some t → args[j]? = some v → Value.okWide Tryd.prog W .any base t v := hval0
  have hW' := hW
  obtain ⟨p, q, hA0, hV, rfl, _, _⟩ := hW
  have hA : DataW.TrodAll enc Tryd.prog W 0 (fun _ => true) true Tryd.f4.params.toList args.toList ds p := hA0
  rw [Tryd.params4] at hA hval
  obtain ⟨rfl, rfl⟩ := trodVars_none hV
  obtain ⟨v0, vs0, d0, ds0, p0, q0, hargs, rfl, rfl, h0, r0⟩ := trodAll_cons hA
  obtain ⟨v1, vs1, d1, ds1, p1, q1, rfl, rfl, rfl, h1, r1⟩ := trodAll_cons r0
  obtain ⟨v2, vs2, d2, ds2, p2, q2, rfl, rfl, rfl, h2, r2⟩ := trodAll_cons r1
  obtain ⟨v3, vs3, d3, ds3, p3, q3, rfl, rfl, rfl, h3, r3⟩ := trodAll_cons r2
  obtain ⟨v4, vs4, d4, ds4, p4, q4, rfl, rfl, rfl, h4, r4⟩ := trodAll_cons r3
  obtain ⟨rfl, rfl, rfl⟩ := trodAll_nil r4
  obtain rfl : args = #[v0, v1, v2, v3, v4] := by cases args; simp_all
  obtain ⟨nm0, dl0, A0, c0, ss0, y0, z0, n0, cc0, f0, e0, u0⟩ := arg_def (hval 0 24 v0 rfl rfl) h0
  subst y0
  obtain ⟨a1, rfl, rfl, rfl, w1⟩ := open_int Tryd.underlying3 (hval 1 3 v1 rfl rfl) h1
  obtain ⟨a2, rfl, rfl, rfl, w2⟩ := open_int Tryd.underlying3 (hval 2 3 v2 rfl rfl) h2
  obtain ⟨a3, rfl, rfl, rfl⟩ := open_bool Tryd.underlying4 (hval 3 4 v3 rfl rfl) h3
  obtain ⟨a4, rfl, rfl, rfl, w4⟩ := open_string Tryd.underlying9 (hval 4 9 v4 rfl rfl) h4
  clear hA0 hval0
  simp only [List.append_nil] at hW'
  have hlt0 : ∀ x ∈ p0, x.block < W.heap.size := fun x hx => by simpa using hW'.lt x (by simp [hx])
  refine (walk nm0 dl0 A0 c0 ss0 a1 a2 a3 a4 m W hm hT z0 n0 f0 e0 (int_hi w1) (by unfold maxLen at w4; exact by omega)).mono fun e W' ⟨he, bel⟩ => ?_
  subst he
  exact ⟨_, rfl, _, _, _, [], _, [], hW', trodAll_mk1 (shut_bool Tryd.underlying4 _), (trodAll_cons_mk (Below.trod laidOut (by kernel_rfl) (of_decide_eq_true (by kernel_rfl)) h0 bel hlt0) (trodAll_cons_mk (shut_int Tryd.underlying3 w1) (trodAll_cons_mk (shut_int Tryd.underlying3 w2) (trodAll_cons_mk (shut_bool Tryd.underlying4 _) (trodAll_cons_mk (shut_string Tryd.underlying9 w4) trodAll_mk0))))), rfl, bel.frame _, fun h => by cases h⟩

theorem over : Rows.defKeysRow.holds Tryd.pinned (OpenSpec.ofChange Rows.defKeysSpec) :=
  OpenClaim.holds_of_wide 4 Tryd.f4 rfl rfl rfl rfl rfl rfl rfl ⟨rfl, rfl, rfl, rfl, rfl⟩ rfl rfl rfl rfl rfl (by kernel_rfl) Tryd.func4 (by kernel_rfl)
    (of_decide_eq_true (by kernel_rfl)) (by unfold Func.isWrapper; first | (rw [if_pos (by decide +kernel)]; kernel_rfl) | (rw [if_neg (by decide +kernel)]; exact ⟨rfl, rfl⟩))
    (fun os started H enc _ => lifted os started H enc)

/-- the statement -/
theorem proved : Rows.DefKeysCardSaid :=
  Claim7.holds_tied_plain_at .later [] [.data, .data, .data, .data, .pinned] true Rows.defKeysCard.stood.harness false over (fun _ h => by cases h) (by kernel_rfl) (fun _ h => by cases h) defKeys_row_tie rfl ⟨rfl, rfl⟩ (by kernel_rfl) rfl
    (fun f fn hf hfn => by
      obtain rfl : f = 4 := Option.some.inj ((show Tryd.prog.funcNamed Rows.defKeysRow.func = some 4 by kernel_rfl).symm.trans hf) |>.symm
      obtain rfl : fn = Tryd.f4 := (Option.some.inj (Tryd.func4.symm.trans hfn)).symm
      exact ⟨by kernel_rfl, fun j t ht => by
        rw [Tryd.params4] at ht
        have hm : t ∈ [24, 3, 3, 4, 9] := by simpa using Array.mem_of_getElem? ht
        have hall : ([24, 3, 3, 4, 9].all fun u => !Tryd.prog.wantsStandIn u) = true := by kernel_rfl
        exact (show Tryd.prog.wantsStandIn t = false by simpa using List.all_eq_true.1 hall t hm)⟩)
    (by kernel_rfl)
#print axioms proved
end Go.Proofs.YtebhakpcjhofpaaDoor.defKeys
