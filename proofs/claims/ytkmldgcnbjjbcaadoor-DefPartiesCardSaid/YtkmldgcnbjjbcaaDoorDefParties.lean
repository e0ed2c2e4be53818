/-
  The statement DefPartiesCardSaid: for every input the law function DefParties returns true (the parties of a definition are those of its steps, each once, in their order), and the arguments read afterwards as before.
  Conditions: none beyond the statement's own (the listed tables of the library hold what its text lays).
-/
import Derived.Test.YtkmldgcnbjjbcaaDoorDefParts
import Derived.Test.YtkmldgcnbjjbcaaDoorDefAwake
import Derived.BigQuiet
import Derived.Deep.QuietTactic
namespace Go.Proofs.YtkmldgcnbjjbcaaDoor.defParties
open Go.Proofs.YtkmldgcnbjjbcaaDoor.Df Go.Proofs.YtkmldgcnbjjbcaaDoor.El
open Go.Proofs.YtkmldgcnbjjbcaaDoor.Bo (P Made ret_int ret_bool)
open Go.ChangeShapes Go.WideShapes Go.ChangeAt Go.RowKit
open Go.ChangeMaps (open_string shut_string)

theorem fold_ext (l : List ByteArray) : ∀ a : List ByteArray, ∃ t, l.foldl fresh a = a ++ t := by
  induction l with
  | nil => exact fun a => ⟨[], by simp⟩
  | cons y l ih =>
    intro a
    obtain ⟨t, ht⟩ := ih (fresh a y)
    rw [List.foldl_cons, ht]
    unfold fresh
    split
    · exact ⟨t, rfl⟩
    · exact ⟨y :: t, by simp⟩
theorem parties_ext (a b : List ByteArray) : ∃ t, parties (a ++ b) = parties a ++ t := by
  unfold parties
  rw [List.foldl_append]
  exact fold_ext b _
theorem any_parties (l : List ByteArray) (x : ByteArray) : (parties l).any (fun y => decide (y = x)) = l.any (fun y => decide (y = x)) := by
  rw [Bool.eq_iff_iff, any_mem, any_mem, parties_mem]
/-- the parties of the first steps, one step on -/
theorem parts_old {ss : List Stp} {i : Nat} {x : Stp} (hx : ss[i]? = some x) (h : ((ss.take i).map Stp.pt).any (fun y => decide (y = x.pt)) = true) : parties ((ss.take (i + 1)).map Stp.pt) = parties ((ss.take i).map Stp.pt) := by
  rw [parts_next hx]
  unfold fresh
  rw [if_pos (by rw [any_parties]; exact h)]
theorem parts_new {ss : List Stp} {i : Nat} {x : Stp} (hx : ss[i]? = some x) (h : ((ss.take i).map Stp.pt).any (fun y => decide (y = x.pt)) = false) : parties ((ss.take (i + 1)).map Stp.pt) = parties ((ss.take i).map Stp.pt) ++ [x.pt] := by
  rw [parts_next hx]
  unfold fresh
  rw [if_neg (by rw [any_parties, h]; simp)]
theorem parts_at {ss : List Stp} {i : Nat} {x : Stp} (hx : ss[i]? = some x) (h : ((ss.take i).map Stp.pt).any (fun y => decide (y = x.pt)) = false) : (parties (ss.map Stp.pt))[(parties ((ss.take i).map Stp.pt)).length]? = some x.pt := by
  obtain ⟨t, ht⟩ := parties_ext ((ss.take (i + 1)).map Stp.pt) ((ss.drop (i + 1)).map Stp.pt)
  rw [← List.map_append, List.take_append_drop, parts_new hx h] at ht
  rw [ht, List.append_assoc, List.getElem?_append_right (Nat.le_refl _), Nat.sub_self]
  rfl
theorem any_next {ss : List Stp} {j : Nat} {y x : Stp} (hy : ss[j]? = some y) : ((ss.take (j + 1)).map Stp.pt).any (fun z => decide (z = x.pt)) = (((ss.take j).map Stp.pt).any (fun z => decide (z = x.pt)) || decide (y.pt = x.pt)) := by
  rw [List.take_add_one, hy, List.map_append, List.any_append]
  simp
/-- the row that Parties answered -/
theorem row_at {w : World} {base : Nat} {A : Option Addr} {n c : Nat} {L : List ByteArray} (h : w.ownsRow base 9 1 (.slice A n c) n (strV L)) {k : Nat} {x : ByteArray} (hk : L[k]? = some x) : ∃ g, A = some ⟨g, 0, none⟩ ∧ w.cell? ⟨g, k, none⟩ = some (.string x) := by
  have hl := h.1
  have hkl := at_lt hk
  unfold strV at hl
  rw [List.length_map] at hl
  rcases h.2 with ⟨h1, h0⟩ | ⟨g, cap, cur, h1, _⟩
  · omega
  · injection h1 with h1 _ h2
    subst h1
    subst h2
    refine ⟨g, rfl, ?_⟩
    rw [h.cellAt k (by omega)]
    unfold strV
    rw [List.getElem?_map, hk]
    rfl
set_option maxHeartbeats 4000000 in
set_option maxRecDepth 100000 in
theorem walk (nm0 : ByteArray) (dl0 : Int) (A0 : Option Addr) (c0 : Nat) (ss0 : List Stp) (m : Int) (w : World)
    (hm : w.cell? ⟨0, 0, none⟩ = some (.int .i64 m)) (hT : Tab w) (z0 : nm0.size ≤ 9223372036854775807) (l0 : ss0.length ≤ 9223372036854775807) (f0 : ∀ s ∈ ss0, s.Fits) (e0 : Df.Steps w w.heap.size A0 ss0) :
    Calls Tryd.prog 5 #[.agg #[.string nm0, .int .i64 dl0, .slice A0 ss0.length c0]] w fun e w' => e = .returned (.bool true) ∧ Below w.heap.size w w' := by
  obtain ⟨n0, hn0⟩ : ∃ n, n = ss0.length := ⟨_, rfl⟩
  rw [← hn0] at l0 ⊢
  have hwb : Hid (Below w.heap.size w (w.alloc (.cells #[.string nm0, .int .i64 dl0, .slice A0 n0 c0] 24))) := Lib.hid ((Below.refl _ w).alloc (Nat.le_refl _) _)
  have hz0 : (w.alloc (.cells #[.string nm0, .int .i64 dl0, .slice A0 n0 c0] 24)).heap.size = w.heap.size + 1 := by simp
  have HA : Hid (∀ w', Below w.heap.size w w' → Calls Tryd.prog 10 #[] w' fun e w'' => e = .returned (.bool true) ∧ Below w'.heap.size w' w'') := Lib.hid fun w' h => awake_any m w' ((h.cell (World.block_lt_of_cell? _ _ hm)).trans hm) (tab_below hT h)
  have HS0 : Hid (∀ w', Below w.heap.size w w' → Calls Tryd.prog 11 #[.agg #[.string nm0, .int .i64 dl0, .slice A0 n0 c0]] w' fun e w'' => e = .returned (.int .i64 (smallI nm0 ss0)) ∧ Made w' w'') := Lib.hid fun w' h => small_any nm0 dl0 A0 c0 ss0 n0 w' hn0 l0 z0 f0 (e0.on h)
  have HB := Lib.hid (Below.refl (w.heap.size + 1) (w.alloc (.cells #[.string nm0, .int .i64 dl0, .slice A0 n0 c0] 24)))
  have E0 := Lib.hid e0
  have HN0 := Lib.hid hn0
  clear hm hT e0 hn0 f0
  by_cases q0 : smallI nm0 ss0 = 0
  · rw [q0] at HS0
    obtain ⟨s40, snm, sst⟩ := small_yes q0
    have L0 : n0 ≤ 40 := by have := HN0.out; omega
    have HP : Hid (∀ w', Below w.heap.size w w' → Calls Tryd.prog 23 #[.agg #[.string nm0, .int .i64 dl0, .slice A0 n0 c0]] w' (PartsPost w' ss0)) := Lib.hid fun w' h => parties_any nm0 dl0 A0 c0 ss0 n0 w' HN0.out (by omega) (E0.out.on h) (fun s hs => by have := (sst s hs).2; omega)
    unfold PartsPost at HP
    have HLn : Hid ((parties (ss0.map Stp.pt)).length ≤ 40) := Lib.hid (by have := parties_len (ss0.map Stp.pt); rw [List.length_map] at this; omega)
    obtain ⟨L, hL⟩ : ∃ L, L = parties (ss0.map Stp.pt) := ⟨_, rfl⟩
    rw [← hL] at HP HLn
    obtain ⟨p, hp⟩ : ∃ p, p = L.length := ⟨_, rfl⟩
    rw [← hp] at HP HLn
    have HL := Lib.hid hL
    have HPl := Lib.hid hp
    have hp40 := HLn.out
    clear q0 s40 snm sst l0 hL hp HLn
    go_enter Tryd.func5, Tryd.ntmps5
    go_wp2_with (first
      | (go_at_call 10; (with_reducible refine (HA.out _ hwb.out).mono ?_); rintro e w1 ⟨rfl, hb⟩; have HB1 := Lib.hid (HB.out.trans (hb.mono (by omega))); clear hb; have HW1 := Lib.hid (hwb.out.trans (HB1.out.mono (by omega))); have x0 := Dc0 (dbox HB1.out); have x1 := Dc1 (dbox HB1.out); have x2 := Dc2 (dbox HB1.out))
      | (go_at_call 11; (with_reducible refine (HS0.out _ HW1.out).mono ?_); rintro e w2 ⟨rfl, hm⟩; have hb := hm.below; clear hm; have HB2 := Lib.hid (HB1.out.trans (hb.mono (by have := HB1.out.size; omega))); clear hb; have HW2 := Lib.hid (hwb.out.trans (HB2.out.mono (by omega))); have x0 := Dc0 (dbox HB2.out); have x1 := Dc1 (dbox HB2.out); have x2 := Dc2 (dbox HB2.out))
      | (go_at_call 23; (with_reducible refine (HP.out _ HW2.out).mono ?_); rintro e w3 ⟨A3, c3, rfl, ho, hb⟩; have HO := Lib.hid ho; clear ho; have HB3 := Lib.hid (HB2.out.trans (hb.mono (by have := HB2.out.size; omega))); clear hb; have HW3 := Lib.hid (hwb.out.trans (HB3.out.mono (by omega))); have x0 := Dc0 (dbox HB3.out); have x1 := Dc1 (dbox HB3.out); have x2 := Dc2 (dbox HB3.out)))
    clear x0 x1 x2
    have X2 : Hid (w3.cell? ⟨w.heap.size, 2, none⟩ = some (.slice A0 n0 c0)) := Lib.hid (Dc2 (dbox HB3.out))
    have HSt := Lib.hid (E0.out.on HW3.out)
    go_loopw [4, 5] (fun vk vi wr => ∃ i k q : Nat, vi = .int .i64 (i : Int) ∧ vk = .int .i64 (k : Int) ∧ i ≤ n0 ∧ k ≤ i ∧ wr = w3.drewN q ∧ Hid (k = (parties ((ss0.take i).map Stp.pt)).length)) (fun _ vi _ => n0 - (intOf vi).toNat)
    case atStart => exact ⟨0, 0, 0, rfl, rfl, Nat.zero_le _, Nat.le_refl _, rfl, Lib.hid rfl⟩
    case round =>
      obtain ⟨i, k, q, rfl, rfl, hi, hki, rfl, HK⟩ := hrel
      have x2 : (w3.drewN q).cell? ⟨w.heap.size, 2, none⟩ = some (.slice A0 n0 c0) := X2.out
      by_cases hin : i < n0
      · obtain ⟨x, hx⟩ : ∃ x, ss0[i]? = some x := ⟨_, List.getElem?_eq_getElem (by have := HN0.out; omega)⟩
        obtain ⟨b, o, rfl, _⟩ := E0.out.at_ hx
        have HX := Lib.hid hx
        clear hx
        go_wp2
        go_loopw [6, 7] (fun vo vj wr2 => ∃ (j q2 : Nat) (ob : Bool), vj = .int .i64 (j : Int) ∧ vo = .bool ob ∧ j ≤ i ∧ wr2 = w3.drewN q2 ∧ Hid (ob = ((ss0.take j).map Stp.pt).any (fun z => decide (z = x.pt)))) (fun _ vj _ => i - (intOf vj).toNat)
        case atStart => exact ⟨0, q, false, rfl, rfl, Nat.zero_le _, rfl, Lib.hid rfl⟩
        case round =>
          obtain ⟨j, q2, ob, rfl, rfl, hj, rfl, HJ⟩ := hrel
          have x2 : (w3.drewN q2).cell? ⟨w.heap.size, 2, none⟩ = some (.slice (some ⟨b, o, none⟩) n0 c0) := X2.out
          have c1 : (w3.drewN q2).cell? ⟨b, o + i * 12 + 1, none⟩ = some (.string x.pt) := HSt.out.get HX.out 1 rfl
          have HQ : Hid (∀ m, (w3.drewN q2).drewN m = w3.drewN (q2 + m)) := Lib.hid fun m => World.drewN_drewN _ _ _
          have HWq : Hid (∀ m, Below w.heap.size w ((w3.drewN q2).drewN m)) := Lib.hid fun m => HW3.out.trans ⟨rfl, rfl, rfl, Nat.le_refl _, fun _ _ => rfl⟩
          by_cases hji : j < i
          · obtain ⟨y, hy⟩ : ∃ y, ss0[j]? = some y := ⟨_, List.getElem?_eq_getElem (by have := HN0.out; omega)⟩
            have d1 : (w3.drewN q2).cell? ⟨b, o + j * 12 + 1, none⟩ = some (.string y.pt) := HSt.out.get hy 1 rfl
            have HAn := Lib.hid (any_next (x := x) hy)
            clear hy
            generalize w3.drewN q2 = wq at *
            cases ob with
            | true =>
              go_wp2_with fail
              go_quiet (fail)
              go_wp2
              go_roundw
              case rel => exact ⟨j + 1, q2 + nq, true, by go_num, rfl, by omega, HQ.out nq, Lib.hid (by rw [HAn.out, ← HJ.out]; rfl)⟩
              case measure => simp only [intOf]; omega
            | false =>
              obtain ⟨v, hv⟩ : ∃ v, v = decide (y.pt = x.pt) := ⟨_, rfl⟩
              have g1 : (y.pt.toList == x.pt.toList) = v := by rw [bytes_beq, hv]
              have HV := Lib.hid hv
              clear hv
              go_wp2_with fail
              go_quiet (fail)
              go_wp2
              go_roundw
              case rel => exact ⟨j + 1, q2 + nq, v, by go_num, rfl, by omega, HQ.out nq, Lib.hid (by rw [HAn.out, ← HJ.out, HV.out]; rfl)⟩
              case measure => simp only [intOf]; omega
          · obtain rfl : i = j := by omega
            cases ob with
            | true =>
              have HK2 : Hid (k = (parties ((ss0.take (i + 1)).map Stp.pt)).length) := Lib.hid (by rw [parts_old HX.out HJ.out.symm]; exact HK.out)
              go_wp2
              go_roundw
              case rel => exact ⟨i + 1, k, q2, by go_num, rfl, by omega, by omega, rfl, HK2⟩
              case measure => simp only [intOf]; omega
            | false =>
              have HK2 : Hid (k + 1 = (parties ((ss0.take (i + 1)).map Stp.pt)).length) := Lib.hid (by rw [parts_new HX.out HJ.out.symm, List.length_append, ← HK.out]; rfl)
              have hLk : L[k]? = some x.pt := by rw [HL.out, HK.out]; exact parts_at HX.out HJ.out.symm
              obtain ⟨g, rfl, hc⟩ := row_at HO.out hLk
              have hkp : k < p := by have := at_lt hLk; have := HPl.out; omega
              have r1 : (w3.drewN q2).cell? ⟨g, k, none⟩ = some (.string x.pt) := hc
              have hpk : decide (p ≤ k) = false := decide_eq_false (by omega)
              have hpk2 : decide ((p : Int) ≤ (k : Int)) = false := decide_eq_false (by omega)
              clear hLk hc
              generalize w3.drewN q2 = wq at *
              go_wp2_with fail
              go_quiet (fail)
              go_wp2
              go_roundw
              case rel => exact ⟨i + 1, k + 1, q2 + nq, by go_num, by go_num, by omega, by omega, HQ.out nq, HK2⟩
              case measure => simp only [intOf]; omega
      · have hkp : k = p := by rw [HPl.out, HL.out, HK.out, show i = n0 by omega, HN0.out, List.take_length]
        subst hkp
        have HWq : Hid (Below w.heap.size w (w3.drewN q)) := Lib.hid (HW3.out.trans ⟨rfl, rfl, rfl, Nat.le_refl _, fun _ _ => rfl⟩)
        go_wp2
        go_ret
        exact ⟨ret_bool (by simp), HWq.out⟩
  · have g0 : (smallI nm0 ss0 != 0) = true := by simpa using q0
    clear q0
    go_enter Tryd.func5, Tryd.ntmps5
    go_wp2_with (first
      | (go_at_call 10; (with_reducible refine (HA.out _ hwb.out).mono ?_); rintro e w1 ⟨rfl, hb⟩; have HB1 := Lib.hid (HB.out.trans (hb.mono (by omega))); clear hb; have HW1 := Lib.hid (hwb.out.trans (HB1.out.mono (by omega))); have x0 := Dc0 (dbox HB1.out); have x1 := Dc1 (dbox HB1.out); have x2 := Dc2 (dbox HB1.out))
      | (go_at_call 11; (with_reducible refine (HS0.out _ HW1.out).mono ?_); rintro e w2 ⟨rfl, hm⟩; have hb := hm.below; clear hm; have HB2 := Lib.hid (HB1.out.trans (hb.mono (by have := HB1.out.size; omega))); clear hb; have HW2 := Lib.hid (hwb.out.trans (HB2.out.mono (by omega))); have x0 := Dc0 (dbox HB2.out); have x1 := Dc1 (dbox HB2.out); have x2 := Dc2 (dbox HB2.out)))
    go_ret
    exact ⟨rfl, HW2.out⟩

set_option maxRecDepth 100000 in
theorem lifted (os : Os) (started : os.Started) (H : Type) (enc : TypeId × Value → H) :
    ReturnsInHanded {} Tryd.checked os 5 .any (fun w args => (Rows.defPartiesSpec.pre enc Tryd.prog Tryd.f5 Rows.defPartiesRow.domain false w args ∧ laidMetH Tryd.prog Rows.defPartiesRow.laid w) ∧ sizedMet enc Tryd.prog Tryd.f5 (OpenSpec.ofChange Rows.defPartiesSpec) false w args)
      (Rows.defPartiesSpec.post enc Tryd.prog Tryd.f5 false true false false) := by
  refine returns_both (C := Tryd.checked) (X := fun w _ => laidMetH Tryd.prog Rows.defPartiesRow.laid w) (fun _ _ _ hh h => h.of_heap hh) own started (by kernel_rfl) Tryd.func5
    (ChangeSpec.witness_shaped (enc := enc) (C := Tryd.checked) (os := os) (X := fun w _ => laidMetH Tryd.prog Rows.defPartiesRow.laid w) false (World.laidAll Tryd.prog os Rows.defPartiesRow.laid) #[.agg #[.string ⟨#[]⟩, .int .i64 0, .slice none 0 0]] 8 (World.laidAll_os _ _ _)
      (World.shaped_of_ZipB (by kernel_rfl) (by kernel_rfl)) (by kernel_rfl) (by kernel_rfl) (by kernel_rfl)
      (by rw [MakeChecks.laidMetH_plain _ _ _ (by kernel_rfl)]; exact laidMet_laidAll _ (by kernel_rfl) (by kernel_rfl))) ?_
  intro W base args ds gs before hval0 hW _ hlaid hsh
  have hT : Tab W := tab_of_laid hlaid
  obtain ⟨m, hm⟩ := cell_of_shapedOpen_int (P := Tryd.prog) (g := 0) (t := 3) (zero := #[.int .i64 0]) hsh (of_decide_eq_true (by kernel_rfl)) (by kernel_rfl) rfl (by kernel_rfl) (by kernel_rfl) Tryd.underlying3
  have hval : ∀ (j : Nat) t v, Tryd.f5.params[j]? = some t → args[j]? = some v → Value.okWide Tryd.prog W .any base t v := hval0
  have hW' := hW
  obtain ⟨p, q, hA0, hV, rfl, _, _⟩ := hW
  have hA : DataW.TrodAll enc Tryd.prog W 0 (fun _ => true) true Tryd.f5.params.toList args.toList ds p := hA0
  rw [Tryd.params5] at hA hval
  obtain ⟨rfl, rfl⟩ := trodVars_none hV
  obtain ⟨v0, vs0, d0, ds0, p0, q0, hargs, rfl, rfl, h0, r0⟩ := trodAll_cons hA
  obtain ⟨rfl, rfl, rfl⟩ := trodAll_nil r0
  obtain rfl : args = #[v0] := by cases args; simp_all
  obtain ⟨nm0, dl0, A0, c0, ss0, y0, z0, n0, cc0, f0, e0, u0⟩ := arg_def (hval 0 24 v0 rfl rfl) h0
  subst y0
  clear hA0 hval0
  simp only [List.append_nil] at hW'
  have hlt0 : ∀ x ∈ p0, x.block < W.heap.size := fun x hx => by simpa using hW'.lt x (by simp [hx])
  refine (walk nm0 dl0 A0 c0 ss0 m W hm hT z0 n0 f0 e0).mono fun e W' ⟨he, bel⟩ => ?_
  subst he
  exact ⟨_, rfl, _, _, _, [], _, [], hW', trodAll_mk1 (shut_bool Tryd.underlying4 _), (trodAll_cons_mk (Below.trod laidOut (by kernel_rfl) (of_decide_eq_true (by kernel_rfl)) h0 bel hlt0) trodAll_mk0), rfl, bel.frame _, fun h => by cases h⟩

theorem over : Rows.defPartiesRow.holds Tryd.pinned (OpenSpec.ofChange Rows.defPartiesSpec) :=
  OpenClaim.holds_of_wide 5 Tryd.f5 rfl rfl rfl rfl rfl rfl rfl ⟨rfl, rfl, rfl, rfl, rfl⟩ rfl rfl rfl rfl rfl (by kernel_rfl) Tryd.func5 (by kernel_rfl)
    (of_decide_eq_true (by kernel_rfl)) (by unfold Func.isWrapper; first | (rw [if_pos (by decide +kernel)]; kernel_rfl) | (rw [if_neg (by decide +kernel)]; exact ⟨rfl, rfl⟩))
    (fun os started H enc _ => lifted os started H enc)

/-- the statement -/
theorem proved : Rows.DefPartiesCardSaid :=
  Claim7.holds_tied_plain_at .later [] [.data, .data, .data, .data, .pinned] true Rows.defPartiesCard.stood.harness false over (fun _ h => by cases h) (by kernel_rfl) (fun _ h => by cases h) defParties_row_tie rfl ⟨rfl, rfl⟩ (by kernel_rfl) rfl
    (fun f fn hf hfn => by
      obtain rfl : f = 5 := Option.some.inj ((show Tryd.prog.funcNamed Rows.defPartiesRow.func = some 5 by kernel_rfl).symm.trans hf) |>.symm
      obtain rfl : fn = Tryd.f5 := (Option.some.inj (Tryd.func5.symm.trans hfn)).symm
      exact ⟨by kernel_rfl, fun j t ht => by
        rw [Tryd.params5] at ht
        have hm : t ∈ [24] := by simpa using Array.mem_of_getElem? ht
        have hall : ([24].all fun u => !Tryd.prog.wantsStandIn u) = true := by kernel_rfl
        exact (show Tryd.prog.wantsStandIn t = false by simpa using List.all_eq_true.1 hall t hm)⟩)
    (by kernel_rfl)
#print axioms proved
end Go.Proofs.YtkmldgcnbjjbcaaDoor.defParties
