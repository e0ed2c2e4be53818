/-
  The statement DefChecksCardSaid: for every input the law function DefChecks returns true (which definitions are right, what is wrong with others, their ends, and whether two are the same, is as the document says), and the arguments read afterwards as before.
  Conditions: none beyond the statement's own (the listed tables of the library hold what its text lays).
-/
import Derived.Test.YtebhakpcjhofpaaDoorDefRCheck
import Derived.Test.YtebhakpcjhofpaaDoorDefAwake
import Derived.BigQuiet
import Derived.Deep.QuietTactic
import Derived.Shelf.SlSortCmp.QuietGrown
namespace Go.Proofs.YtebhakpcjhofpaaDoor.defChecks
open Go.Proofs.YtebhakpcjhofpaaDoor.Df Go.Proofs.YtebhakpcjhofpaaDoor.El
open Go.Proofs.YtebhakpcjhofpaaDoor.Bo (P Made ret_int ret_bool)
open Go.ChangeShapes Go.WideShapes Go.ChangeAt Go.RowKit Go.Sort
open Go.ChangeMaps (open_string shut_string)

theorem sameB_self (nm : ByteArray) (dl : Int) (ss : List Stp) : sameB nm nm dl dl ss ss = true := by simp [sameB]
/-- the law's own two definitions, behind whatever has been made since -/
theorem boxes {w w' : World} {nm0 nm1 : ByteArray} {dl0 dl1 : Int} {A0 A1 : Option Addr} {n0 n1 c0 c1 : Nat} (h : Below ((w.alloc (.cells #[.string nm0, .int .i64 dl0, .slice A0 n0 c0] 24)).alloc (.cells #[.string nm1, .int .i64 dl1, .slice A1 n1 c1] 24)).heap.size ((w.alloc (.cells #[.string nm0, .int .i64 dl0, .slice A0 n0 c0] 24)).alloc (.cells #[.string nm1, .int .i64 dl1, .slice A1 n1 c1] 24)) w') :
    w'.cell? ⟨w.heap.size, 0, none⟩ = some (.string nm0) ∧ w'.cell? ⟨w.heap.size, 1, none⟩ = some (.int .i64 dl0) ∧ w'.cell? ⟨w.heap.size, 2, none⟩ = some (.slice A0 n0 c0) ∧
      w'.cell? ⟨w.heap.size + 1, 0, none⟩ = some (.string nm1) ∧ w'.cell? ⟨w.heap.size + 1, 1, none⟩ = some (.int .i64 dl1) ∧ w'.cell? ⟨w.heap.size + 1, 2, none⟩ = some (.slice A1 n1 c1) := by
  obtain ⟨h1, h2⟩ := two_below h
  exact ⟨h1.cell 0, h1.cell 1, h1.cell 2, h2.cell 0, h2.cell 1, h2.cell 2⟩
/-- a definition's cells, whatever has been made since -/
theorem dall {w : World} {g : Nat} {nm : ByteArray} {dl : Int} {A : Option Addr} {n c : Nat} (h : Box w g 24 (dcells nm dl A n c)) :
    (∀ n os, (grow (w.drewN n) os).cell? ⟨g, 0, none⟩ = some (.string nm)) ∧ (∀ n os, (grow (w.drewN n) os).cell? ⟨g, 1, none⟩ = some (.int .i64 dl)) ∧ (∀ m os, (grow (w.drewN m) os).cell? ⟨g, 2, none⟩ = some (.slice A n c)) :=
  ⟨fun n os => cell_grown h.lt (Dc0 h) n os, fun n os => cell_grown h.lt (Dc1 h) n os, fun n os => cell_grown h.lt (Dc2 h) n os⟩
theorem grown_below (w : World) (n : Nat) (os : Array Obj) : Below w.heap.size w (grow (w.drewN n) os) := Made.below ⟨n, os, rfl⟩
set_option maxHeartbeats 4000000 in
set_option maxRecDepth 100000 in
theorem walk (nm0 : ByteArray) (dl0 : Int) (A0 : Option Addr) (c0 : Nat) (ss0 : List Stp) (nm1 : ByteArray) (dl1 : Int) (A1 : Option Addr) (c1 : Nat) (ss1 : List Stp) (start m : Int) (w : World)
    (hm : w.cell? ⟨0, 0, none⟩ = some (.int .i64 m)) (hT : Tab w) (z0 : nm0.size ≤ 9223372036854775807) (l0 : ss0.length ≤ 9223372036854775807) (cc0 : ss0.length ≤ c0) (f0 : ∀ s ∈ ss0, s.Fits) (e0 : Df.Steps w w.heap.size A0 ss0) (u0 : A0 = none → ss0 = [] ∧ c0 = 0)
    (z1 : nm1.size ≤ 9223372036854775807) (l1 : ss1.length ≤ 9223372036854775807) (f1 : ∀ s ∈ ss1, s.Fits) (e1 : Df.Steps w w.heap.size A1 ss1) :
    Calls Tryd.prog 3 #[.agg #[.string nm0, .int .i64 dl0, .slice A0 ss0.length c0], .agg #[.string nm1, .int .i64 dl1, .slice A1 ss1.length c1], .int .i64 start] w fun e w' => e = .returned (.bool true) ∧ Below w.heap.size w w' := by
  obtain ⟨n0, hn0⟩ : ∃ n, n = ss0.length := ⟨_, rfl⟩
  obtain ⟨n1, hn1⟩ : ∃ n, n = ss1.length := ⟨_, rfl⟩
  rw [← hn0] at l0 cc0 ⊢
  rw [← hn1] at l1 ⊢
  have hwb : Hid (Below w.heap.size w ((w.alloc (.cells #[.string nm0, .int .i64 dl0, .slice A0 n0 c0] 24)).alloc (.cells #[.string nm1, .int .i64 dl1, .slice A1 n1 c1] 24))) := Lib.hid (((Below.refl _ w).alloc (Nat.le_refl _) _).alloc (by simp) _)
  have hz0 : ((w.alloc (.cells #[.string nm0, .int .i64 dl0, .slice A0 n0 c0] 24)).alloc (.cells #[.string nm1, .int .i64 dl1, .slice A1 n1 c1] 24)).heap.size = w.heap.size + 2 := by simp
  have HA : Hid (∀ w', Below w.heap.size w w' → Calls Tryd.prog 7 #[] w' fun e w'' => e = .returned (.bool true) ∧ Below w'.heap.size w' w'') := Lib.hid fun w' h => awake_any m w' ((h.cell (World.block_lt_of_cell? _ _ hm)).trans hm) (tab_below hT h)
  have HS0 : Hid (∀ w', Below w.heap.size w w' → Calls Tryd.prog 8 #[.agg #[.string nm0, .int .i64 dl0, .slice A0 n0 c0]] w' fun e w'' => e = .returned (.int .i64 (smallI nm0 ss0)) ∧ Made w' w'') := Lib.hid fun w' h => small_any nm0 dl0 A0 c0 ss0 n0 w' hn0 l0 z0 f0 (e0.on h)
  have HS1 : Hid (∀ w', Below w.heap.size w w' → Calls Tryd.prog 8 #[.agg #[.string nm1, .int .i64 dl1, .slice A1 n1 c1]] w' fun e w'' => e = .returned (.int .i64 (smallI nm1 ss1)) ∧ Made w' w'') := Lib.hid fun w' h => small_any nm1 dl1 A1 c1 ss1 n1 w' hn1 l1 z1 f1 (e1.on h)
  have HB := Lib.hid (Below.refl ((w.alloc (.cells #[.string nm0, .int .i64 dl0, .slice A0 n0 c0] 24)).alloc (.cells #[.string nm1, .int .i64 dl1, .slice A1 n1 c1] 24)).heap.size ((w.alloc (.cells #[.string nm0, .int .i64 dl0, .slice A0 n0 c0] 24)).alloc (.cells #[.string nm1, .int .i64 dl1, .slice A1 n1 c1] 24)))
  have E0 := Lib.hid e0
  have E1 := Lib.hid e1
  have HN0 := Lib.hid hn0
  have HN1 := Lib.hid hn1
  have U0 := Lib.hid u0
  clear hm hT e0 e1 hn0 hn1 u0 f0 f1
  by_cases q0 : smallI nm0 ss0 = 0
  · by_cases q1 : smallI nm1 ss1 = 0
    · rw [q0] at HS0
      rw [q1] at HS1
      obtain ⟨s40, snm, sst⟩ := small_yes q0
      obtain ⟨t40, _, _⟩ := small_yes q1
      have HCk : Hid (∀ w', Below w.heap.size w w' → Calls Tryd.prog 9 #[.agg #[.string nm0, .int .i64 dl0, .slice A0 n0 c0]] w' (ChkPost nm0 dl0 ss0 w')) := Lib.hid fun w' h => check_any nm0 dl0 A0 c0 ss0 n0 w' HN0.out l0 cc0 (E0.out.on h) (by omega) (fun s hs => by have := sst s hs; omega)
      have HRk : Hid (∀ w', Below w.heap.size w w' → Calls Tryd.prog 10 #[.agg #[.string nm0, .int .i64 dl0, .slice A0 n0 c0]] w' (ChkPost nm0 dl0 ss0 w')) := Lib.hid fun w' h => rcheck_any nm0 dl0 A0 c0 ss0 n0 w' HN0.out l0 (E0.out.on h) (by omega) (fun s hs => by have := sst s hs; omega)
      have HOw : Hid (∀ w', Below w.heap.size w w' → Calls Tryd.prog 11 #[.agg #[.string nm0, .int .i64 dl0, .slice A0 n0 c0]] w' (Owned w' nm0 dl0 n0 ss0)) := Lib.hid fun w' h => own_any nm0 dl0 A0 c0 ss0 n0 w' HN0.out (by have := HN0.out; omega) (E0.out.on h) (fun hA => by obtain ⟨h1, h2⟩ := U0.out hA; exact ⟨by rw [HN0.out, h1]; rfl, h2⟩)
      have HEn := Lib.hid (fun w' => end_any nm0 dl0 A0 n0 c0 start w')
      have HRe := Lib.hid (fun w' => rend_any nm0 dl0 A0 n0 c0 start w')
      have L0 : n0 ≤ 40 := by have := HN0.out; omega
      have L1 : n1 ≤ 40 := by have := HN1.out; omega
      unfold ChkPost at HCk HRk
      unfold Owned at HOw
      clear q0 q1 s40 snm sst t40 l0 l1 cc0
      go_enter Tryd.func3, Tryd.ntmps3
      go_wp2_with (first
        | (go_at_call 7; (with_reducible refine (HA.out _ hwb.out).mono ?_); rintro e w1 ⟨rfl, hb⟩; have HB1 := Lib.hid (HB.out.trans hb); clear hb; have HW1 := Lib.hid (hwb.out.trans (HB1.out.mono (by omega))); obtain ⟨x0, x1, x2, y0, y1, y2⟩ := boxes HB1.out)
        | (go_at_call 8; (with_reducible refine (HS0.out _ HW1.out).mono ?_); rintro e w2 ⟨rfl, hm⟩; have HB2 := Lib.hid (HB1.out.trans (hm.below.mono HB1.out.size)); clear hm; have HW2 := Lib.hid (hwb.out.trans (HB2.out.mono (by omega))); obtain ⟨x0, x1, x2, y0, y1, y2⟩ := boxes HB2.out)
        | (go_at_call 8; (with_reducible refine (HS1.out _ HW2.out).mono ?_); rintro e w3 ⟨rfl, hm⟩; have HB3 := Lib.hid (HB2.out.trans (hm.below.mono HB2.out.size)); clear hm; have HW3 := Lib.hid (hwb.out.trans (HB3.out.mono (by omega))); obtain ⟨x0, x1, x2, y0, y1, y2⟩ := boxes HB3.out)
        | (go_at_call 9; (with_reducible refine (HCk.out _ HW3.out).mono ?_); rintro e w4 ⟨k, ev, rfl, hk, hb⟩; have HK := Lib.hid hk; have HB4 := Lib.hid (HB3.out.trans (hb.mono HB3.out.size)); clear hb hk; have HW4 := Lib.hid (hwb.out.trans (HB4.out.mono (by omega))); obtain ⟨x0, x1, x2, y0, y1, y2⟩ := boxes HB4.out)
        | (go_at_call 10; (with_reducible refine (HRk.out _ HW4.out).mono ?_); rintro e w5 ⟨k', ev', rfl, hk, hb⟩; obtain ⟨rfl, rfl⟩ := chk_uniq hk HK.out; have HB5 := Lib.hid (HB4.out.trans (hb.mono HB4.out.size)); clear hb hk; have HW5 := Lib.hid (hwb.out.trans (HB5.out.mono (by omega))); obtain ⟨x0, x1, x2, y0, y1, y2⟩ := boxes HB5.out)
        | (go_at_call 11; (with_reducible refine (HOw.out _ HW5.out).mono ?_); rintro e w6 ⟨A2, c2, rfl, ho, hb⟩; have HO := Lib.hid ho; have HB6 := Lib.hid (HB5.out.trans (hb.mono HB5.out.size)); clear hb ho; have HW6 := Lib.hid (hwb.out.trans (HB6.out.mono (by omega))); obtain ⟨x0, x1, x2, y0, y1, y2⟩ := boxes HB6.out))
      have HX7 : Hid (Box (w6.alloc (.cells (dcells nm0 dl0 A2 n0 c2) 24)) w6.heap.size 24 (dcells nm0 dl0 A2 n0 c2) ∧ Below w6.heap.size w6 (w6.alloc (.cells (dcells nm0 dl0 A2 n0 c2) 24))) := Lib.hid ⟨Box.new _ _ _, (Below.refl _ _).alloc (Nat.le_refl _) _⟩
      unfold dcells at HX7
      clear x0 x1 x2 y0 y1 y2
      have mixed : Tryd.prog.follows .mixedOrders = true := by kernel_rfl
      generalize w6.alloc _ = W7 at *
      have HB7 := Lib.hid (HB6.out.trans (HX7.out.2.mono HB6.out.size))
      have HW7 := Lib.hid (hwb.out.trans (HB7.out.mono (by omega)))
      obtain ⟨hb0, hb1⟩ := two_below HB7.out
      obtain ⟨x0, x1, x2⟩ := dall (nm := nm0) (dl := dl0) (A := A0) (n := n0) (c := c0) hb0
      obtain ⟨y0, y1, y2⟩ := dall (nm := nm1) (dl := dl1) (A := A1) (n := n1) (c := c1) hb1
      obtain ⟨v0, v1, v2⟩ := dall (nm := nm0) (dl := dl0) (A := A2) (n := n0) (c := c2) HX7.out.1
      have HSm : Hid (∀ q os, Calls Tryd.prog 14 #[.agg #[.string nm0, .int .i64 dl0, .slice A0 n0 c0], .agg #[.string nm1, .int .i64 dl1, .slice A1 n1 c1]] (grow (W7.drewN q) os) fun e w' => e = .returned (.bool (sameB nm0 nm1 dl0 dl1 ss0 ss1)) ∧ Made (grow (W7.drewN q) os) w') := Lib.hid fun q os =>
        same_any nm0 nm1 dl0 dl1 A0 A1 c0 c1 ss0 ss1 n0 n1 _ HN0.out HN1.out (by omega) (by omega) (E0.out.on (HW7.out.trans ((grown_below W7 q os).mono HW7.out.size))) (E1.out.on (HW7.out.trans ((grown_below W7 q os).mono HW7.out.size)))
      have HRs : Hid (∀ q os, Calls Tryd.prog 15 #[.agg #[.string nm0, .int .i64 dl0, .slice A0 n0 c0], .agg #[.string nm1, .int .i64 dl1, .slice A1 n1 c1]] (grow (W7.drewN q) os) fun e w' => e = .returned (.bool (sameB nm0 nm1 dl0 dl1 ss0 ss1)) ∧ Made (grow (W7.drewN q) os) w') := Lib.hid fun q os =>
        rsame_any nm0 nm1 dl0 dl1 A0 A1 c0 c1 ss0 ss1 n0 n1 _ HN0.out HN1.out (by omega) (by omega) (E0.out.on (HW7.out.trans ((grown_below W7 q os).mono HW7.out.size))) (E1.out.on (HW7.out.trans ((grown_below W7 q os).mono HW7.out.size)))
      have HRo : Hid (∀ q os, Calls Tryd.prog 15 #[.agg #[.string nm0, .int .i64 dl0, .slice A2 n0 c2], .agg #[.string nm0, .int .i64 dl0, .slice A0 n0 c0]] (grow (W7.drewN q) os) fun e w' => e = .returned (.bool true) ∧ Made (grow (W7.drewN q) os) w') := Lib.hid fun q os => by
        have hs2 : Df.Steps W7 W7.heap.size A2 ss0 := (steps_own HO.out).on HX7.out.2
        have h := rsame_any nm0 nm0 dl0 dl0 A2 A0 c2 c0 ss0 ss0 n0 n0 (grow (W7.drewN q) os) HN0.out HN0.out (by omega) (by omega) (hs2.on (grown_below W7 q os)) (E0.out.on (HW7.out.trans ((grown_below W7 q os).mono HW7.out.size)))
        rw [sameB_self] at h
        exact h
      clear hb0 hb1
      generalize w6.heap.size = g7 at *
      go_quiet_grown (first
        | (go_at_call 12; with_reducible exact Calls.grown_of (HEn.out _))
        | (go_at_call 13; with_reducible exact Calls.grown_of (HRe.out _))
        | (go_at_call 14; with_reducible exact Calls.grown_of (HSm.out _ _))
        | (go_at_call 15; with_reducible exact Calls.grown_of (HRs.out _ _))
        | (go_at_call 15; with_reducible exact Calls.grown_of (HRo.out _ _)))
      go_wp2
      go_ret
      exact ⟨rfl, HW7.out.trans ((grown_below W7 nq osq).mono HW7.out.size)⟩
    · have g1 : (smallI nm1 ss1 != 0) = true := by simpa using q1
      rw [q0] at HS0
      clear q0 q1
      go_enter Tryd.func3, Tryd.ntmps3
      go_wp2_with (first
        | (go_at_call 7; (with_reducible refine (HA.out _ hwb.out).mono ?_); rintro e w1 ⟨rfl, hb⟩; have HB1 := Lib.hid (HB.out.trans hb); clear hb; have HW1 := Lib.hid (hwb.out.trans (HB1.out.mono (by omega))); obtain ⟨x0, x1, x2, y0, y1, y2⟩ := boxes HB1.out)
        | (go_at_call 8; (with_reducible refine (HS0.out _ HW1.out).mono ?_); rintro e w2 ⟨rfl, hm⟩; have HB2 := Lib.hid (HB1.out.trans (hm.below.mono HB1.out.size)); clear hm; have HW2 := Lib.hid (hwb.out.trans (HB2.out.mono (by omega))); obtain ⟨x0, x1, x2, y0, y1, y2⟩ := boxes HB2.out)
        | (go_at_call 8; (with_reducible refine (HS1.out _ HW2.out).mono ?_); rintro e w3 ⟨rfl, hm⟩; have HW3 := Lib.hid (HW2.out.trans (hm.below.mono HW2.out.size)); clear hm))
      go_ret
      exact ⟨rfl, HW3.out⟩
  · have g0 : (smallI nm0 ss0 != 0) = true := by simpa using q0
    clear q0
    go_enter Tryd.func3, Tryd.ntmps3
    go_wp2_with (first
      | (go_at_call 7; (with_reducible refine (HA.out _ hwb.out).mono ?_); rintro e w1 ⟨rfl, hb⟩; have HB1 := Lib.hid (HB.out.trans hb); clear hb; have HW1 := Lib.hid (hwb.out.trans (HB1.out.mono (by omega))); obtain ⟨x0, x1, x2, y0, y1, y2⟩ := boxes HB1.out)
      | (go_at_call 8; (with_reducible refine (HS0.out _ HW1.out).mono ?_); rintro e w2 ⟨rfl, hm⟩; have HW2 := Lib.hid (HW1.out.trans (hm.below.mono HW1.out.size)); clear hm))
    go_ret
    exact ⟨rfl, HW2.out⟩

set_option maxRecDepth 100000 in
theorem lifted (os : Os) (started : os.Started) (H : Type) (enc : TypeId × Value → H) :
    ReturnsInHanded {} Tryd.checked os 3 .any (fun w args => (Rows.defChecksSpec.pre enc Tryd.prog Tryd.f3 Rows.defChecksRow.domain false w args ∧ laidMetH Tryd.prog Rows.defChecksRow.laid w) ∧ sizedMet enc Tryd.prog Tryd.f3 (OpenSpec.ofChange Rows.defChecksSpec) false w args)
      (Rows.defChecksSpec.post enc Tryd.prog Tryd.f3 false true false false) := by
  refine returns_both (C := Tryd.checked) (X := fun w _ => laidMetH Tryd.prog Rows.defChecksRow.laid w) (fun _ _ _ hh h => h.of_heap hh) own started (by kernel_rfl) Tryd.func3
    (ChangeSpec.witness_shaped (enc := enc) (C := Tryd.checked) (os := os) (X := fun w _ => laidMetH Tryd.prog Rows.defChecksRow.laid w) false (World.laidAll Tryd.prog os Rows.defChecksRow.laid) #[.agg #[.string ⟨#[]⟩, .int .i64 0, .slice none 0 0], .agg #[.string ⟨#[]⟩, .int .i64 0, .slice none 0 0], .int .i64 0] 8 (World.laidAll_os _ _ _)
      (World.shaped_of_ZipB (by kernel_rfl) (by kernel_rfl)) (by kernel_rfl) (by kernel_rfl) (by kernel_rfl)
      (by rw [MakeChecks.laidMetH_plain _ _ _ (by kernel_rfl)]; exact laidMet_laidAll _ (by kernel_rfl) (by kernel_rfl))) ?_
  intro W base args ds gs before hval0 hW _ hlaid hsh
  have hT : Tab W := tab_of_laid hlaid
  obtain ⟨m, hm⟩ := cell_of_shapedOpen_int (P := Tryd.prog) (g := 0) (t := 3) (zero := #[.int .i64 0]) hsh (of_decide_eq_true (by kernel_rfl)) (by kernel_rfl) rfl (by kernel_rfl) (by kernel_rfl) Tryd.underlying3
  have hval : ∀ (j : Nat) t v, Tryd.f3.params[j]? = some t → args[j]? = some v → Value.okWide Tryd.prog W .any base t v := hval0
  have hW' := hW
  obtain ⟨p, q, hA0, hV, rfl, _, _⟩ := hW
  have hA : DataW.TrodAll enc Tryd.prog W 0 (fun _ => true) true Tryd.f3.params.toList args.toList ds p := hA0
  rw [Tryd.params3] at hA hval
  obtain ⟨rfl, rfl⟩ := trodVars_none hV
  obtain ⟨v0, vs0, d0, ds0, p0, q0, hargs, rfl, rfl, h0, r0⟩ := trodAll_cons hA
  obtain ⟨v1, vs1, d1, ds1, p1, q1, rfl, rfl, rfl, h1, r1⟩ := trodAll_cons r0
  obtain ⟨v2, vs2, d2, ds2, p2, q2, rfl, rfl, rfl, h2, r2⟩ := trodAll_cons r1
  obtain ⟨rfl, rfl, rfl⟩ := trodAll_nil r2
  obtain rfl : args = #[v0, v1, v2] := by cases args; simp_all
  obtain ⟨nm0, dl0, A0, c0, ss0, y0, z0, n0, cc0, f0, e0, u0⟩ := arg_def (hval 0 24 v0 rfl rfl) h0
  subst y0
  obtain ⟨nm1, dl1, A1, c1, ss1, y1, z1, n1, cc1, f1, e1, u1⟩ := arg_def (hval 1 24 v1 rfl rfl) h1
  subst y1
  obtain ⟨a2, rfl, rfl, rfl, w2⟩ := open_int Tryd.underlying3 (hval 2 3 v2 rfl rfl) h2
  clear hA0 hval0
  simp only [List.append_nil] at hW'
  have hlt0 : ∀ x ∈ p0, x.block < W.heap.size := fun x hx => by simpa using hW'.lt x (by simp [hx])
  have hlt1 : ∀ x ∈ p1, x.block < W.heap.size := fun x hx => by simpa using hW'.lt x (by simp [hx])
  refine (walk nm0 dl0 A0 c0 ss0 nm1 dl1 A1 c1 ss1 a2 m W hm hT z0 n0 cc0 f0 e0 u0 z1 n1 f1 e1).mono fun e W' ⟨he, bel⟩ => ?_
  subst he
  exact ⟨_, rfl, _, _, _, [], _, [], hW', trodAll_mk1 (shut_bool Tryd.underlying4 _), (trodAll_cons_mk (Below.trod laidOut (by kernel_rfl) (of_decide_eq_true (by kernel_rfl)) h0 bel hlt0) (trodAll_cons_mk (Below.trod laidOut (by kernel_rfl) (of_decide_eq_true (by kernel_rfl)) h1 bel hlt1) (trodAll_cons_mk (shut_int Tryd.underlying3 w2) trodAll_mk0))), rfl, bel.frame _, fun h => by cases h⟩

theorem over : Rows.defChecksRow.holds Tryd.pinned (OpenSpec.ofChange Rows.defChecksSpec) :=
  OpenClaim.holds_of_wide 3 Tryd.f3 rfl rfl rfl rfl rfl rfl rfl ⟨rfl, rfl, rfl, rfl, rfl⟩ rfl rfl rfl rfl rfl (by kernel_rfl) Tryd.func3 (by kernel_rfl)
    (of_decide_eq_true (by kernel_rfl)) (by unfold Func.isWrapper; first | (rw [if_pos (by decide +kernel)]; kernel_rfl) | (rw [if_neg (by decide +kernel)]; exact ⟨rfl, rfl⟩))
    (fun os started H enc _ => lifted os started H enc)

/-- the statement -/
theorem proved : Rows.DefChecksCardSaid :=
  Claim7.holds_tied_plain_at .later [] [.data, .data, .data, .data, .pinned] true Rows.defChecksCard.stood.harness false over (fun _ h => by cases h) (by kernel_rfl) (fun _ h => by cases h) defChecks_row_tie rfl ⟨rfl, rfl⟩ (by kernel_rfl) rfl
    (fun f fn hf hfn => by
      obtain rfl : f = 3 := Option.some.inj ((show Tryd.prog.funcNamed Rows.defChecksRow.func = some 3 by kernel_rfl).symm.trans hf) |>.symm
      obtain rfl : fn = Tryd.f3 := (Option.some.inj (Tryd.func3.symm.trans hfn)).symm
      exact ⟨by kernel_rfl, fun j t ht => by
        rw [Tryd.params3] at ht
        have hm : t ∈ [24, 24, 3] := by simpa using Array.mem_of_getElem? ht
        have hall : ([24, 24, 3].all fun u => !Tryd.prog.wantsStandIn u) = true := by kernel_rfl
        exact (show Tryd.prog.wantsStandIn t = false by simpa using List.all_eq_true.1 hall t hm)⟩)
    (by kernel_rfl)
#print axioms proved
end Go.Proofs.YtebhakpcjhofpaaDoor.defChecks
