/-
  The statement GuardRestoresSaid: for every input the law function GuardRestores returns true (what is restored is so: as many are in flight, and the breaker is closed; just as many ends are taken then), and the arguments read afterwards as before.
  Conditions: none beyond the statement's own.
-/
import Derived.Test.YtapnnlebokcmgaaGrdLaw
import Derived.Deep.CutBlock
import Derived.Deep.DeepCutAuto
import Derived.BigQuiet
import Derived.Deep.QuietTactic
import Derived.StillTailTactics
namespace Go.Proofs.Ytapnnlebokcmgaa.guardRestores
open Go.Proofs.Ytapnnlebokcmgaa.Gd
open Go.Proofs.Ytapnnlebokcmgaa.Bk (S Brk Aft kind ret_int ret_bool)
open Go.ChangeShapes Go.WideShapes Go.ChangeAt Go.RowKit

theorem lt_of_at {L : List Gt} {k : Nat} {x : Gt} (hx : L[k]? = some x) : k < L.length := by
  rcases Nat.lt_or_ge k L.length with h1 | h1
  · exact h1
  · rw [List.getElem?_eq_none h1] at hx; cases hx
theorem turn_get {L : List Gt} {k : Nat} {x : Gt} (hx : L[k]? = some x) {ok : Gt → Bool} (f : Gt → Gt) (ho : ok x = true) : (turn L (k : Int) ok f)[k]? = some (f x) := by
  unfold turn
  rw [at_nat, hx]
  show (if ok x = true then L.set (k : Int).toNat (f x) else L)[k]? = _
  rw [if_pos ho, Int.toNat_natCast, List.getElem?_set, if_pos rfl, if_pos (lt_of_at hx)]
theorem ans_get {L : List Gt} {k : Nat} {x : Gt} (hx : L[k]? = some x) (d : Int) (f : Gt → Int) : ans L (k : Int) d f = f x := by
  unfold ans
  rw [at_nat, hx]
theorem res_big {L : List Gt} {k : Nat} {x : Gt} (hx : L[k]? = some x) {j : Int} (hj : x.p.seats < j) : resA L (k : Int) j = 1 := by
  unfold resA
  rw [ans_get hx]
  unfold resE
  rw [if_pos (Or.inr hj)]
theorem res_fit {L : List Gt} {k : Nat} {x : Gt} (hx : L[k]? = some x) {j : Int} (h0 : 0 ≤ j) (hj : j ≤ x.p.seats) : resA L (k : Int) j = 0 ∧ (resG L (k : Int) j)[k]? = some (resT x j) := by
  have h : resE x j = 0 := by unfold resE; rw [if_neg (by omega)]
  refine ⟨?_, turn_get hx _ (decide_eq_true h)⟩
  unfold resA
  rw [ans_get hx]
  exact h
theorem over_fit {L : List Gt} {k : Nat} {x : Gt} (hx : L[k]? = some x) (h0 : x.fl ≠ 0) : overA L (k : Int) 0 = 0 ∧ (overG L (k : Int) 0 0)[k]? = some (overT x 0 0) := by
  have h : overE x 0 = 0 := by unfold overE; rw [if_neg (by omega), if_neg h0]
  refine ⟨?_, turn_get hx _ (decide_eq_true h)⟩
  unfold overA
  rw [ans_get hx]
  exact h
theorem over_end {L : List Gt} {k : Nat} {x : Gt} (hx : L[k]? = some x) (h0 : x.fl = 0) : overA L (k : Int) 0 = 9 := by
  unfold overA
  rw [ans_get hx]
  unfold overE
  rw [if_neg (by omega), if_pos h0]
set_option maxHeartbeats 4000000 in
set_option maxRecDepth 100000 in
theorem walk (A0 : Option Addr) (ps : List Pty) (ca : Nat) (A1 : Option Addr) (acts : List Ac) (cb : Nat) (a2 a3 : Int) (w : World) (hps : Els Pty.cells 5 w w.heap.size A0 ps) (hsz : ∀ p ∈ ps, p.nm.size ≤ 9223372036854775807) (hn : ps.length ≤ 9223372036854775807)
    (hac : Els Ac.cells 4 w w.heap.size A1 acts) (hm : acts.length ≤ 9223372036854775807) (h2 : 0 ≤ a2 ∧ a2 ≤ 255) (h3 : 0 ≤ a3 ∧ a3 ≤ 255) :
    Calls Try.prog 4 #[.slice A0 ps.length ca, .slice A1 acts.length cb, .int .u8 a2, .int .u8 a3] w fun e w' => e = .returned (.bool true) ∧ Below w.heap.size w w' := by
  obtain ⟨n, hnn⟩ : ∃ n, n = ps.length := ⟨_, rfl⟩
  obtain ⟨m, hmm⟩ : ∃ m, m = acts.length := ⟨_, rfl⟩
  have hfew : ∀ w', Below w.heap.size w w' → Calls Try.prog 6 #[.slice A0 ps.length ca] w' fun e w'' => e = .returned (.bool (fewB ps)) ∧ w' = w'' := fun w' hb =>
    few_any A0 ps ca w' (fun i p hp => by obtain ⟨b, o, e, hlt, hc⟩ := hps.below hb i p hp; exact ⟨b, o, e, Nat.lt_of_lt_of_le hlt hb.size, hc⟩) hsz hn
  rw [← hnn] at hfew hn ⊢
  rw [← hmm] at hm ⊢
  by_cases h8 : 8 < n
  · clear hfew hps hac hsz
    go_enter Try.func4, Try.ntmps4
    go_wp2_with (go_at_call 5; (with_reducible refine (awake_any _).mono ?_); rintro e w0 ⟨rfl, hb0⟩)
    go_ret
    exact ⟨rfl, hb0⟩
  have HFew := Lib.hid hfew
  have HNN := Lib.hid hnn
  have HMM := Lib.hid hmm
  clear hfew hnn hmm
  cases hff : fewB ps with
  | false =>
    rw [hff] at HFew
    clear hps hac hsz
    go_enter Try.func4, Try.ntmps4
    go_wp2_with (first
      | (go_at_call 5; (with_reducible refine (awake_any _).mono ?_); rintro e w0 ⟨rfl, hb0⟩; have H0 := Lib.hid hb0; clear hb0)
      | (go_at_call 6; (with_reducible refine (HFew.out _ H0.out).mono ?_); rintro e w1 ⟨rfl, rfl⟩))
    go_ret
    exact ⟨rfl, H0.out⟩
  | true =>
    rw [hff] at HFew
    by_cases h50 : 50 < m
    · clear hps hac hsz
      go_enter Try.func4, Try.ntmps4
      go_wp2_with (first
        | (go_at_call 5; (with_reducible refine (awake_any _).mono ?_); rintro e w0 ⟨rfl, hb0⟩; have H0 := Lib.hid hb0; clear hb0)
        | (go_at_call 6; (with_reducible refine (HFew.out _ H0.out).mono ?_); rintro e w1 ⟨rfl, rfl⟩))
      go_ret
      exact ⟨rfl, H0.out⟩
    have hnew : ∀ w', Below w.heap.size w w' → Calls Try.prog 7 #[.slice A0 n ca] w' fun e w'' =>
        (∃ k er, er ≠ 0 ∧ e = .returned (.tuple #[.pointer none, .int .i64 k, .int .i64 er]) ∧ Below w.heap.size w w'') ∨
        ∃ g, e = .returned (.tuple #[.pointer (some ⟨g, 0, none⟩), .int .i64 (-1), .int .i64 0]) ∧ St w w'' g w'.heap.size ps (ps.map gnew) := fun w' hb => by
      rw [HNN.out]
      have hnp := HNN.out
      refine (new_any A0 ps ca w' (fun i p hp => by obtain ⟨b, o, e, hlt, hc⟩ := hps.below hb i p hp; exact ⟨b, o, e, Nat.lt_of_lt_of_le hlt hb.size, hc⟩) (fun p hp => by have := fewB_yes hff p hp; omega) (by omega)).mono fun e w'' h => ?_
      exact new_law h (by have := HNN.out; omega) hb
    have HNew := Lib.hid hnew
    have HA := Lib.hid hac
    have HP := Lib.hid hps
    clear hnew hac hps hsz hff
    obtain ⟨x2, y2⟩ := h2
    obtain ⟨x3, y3⟩ := h3
    go_enter Try.func4, Try.ntmps4
    go_wp2_with (first
      | (go_at_call 5; (with_reducible refine (awake_any _).mono ?_); rintro e w0 ⟨rfl, hb0⟩; have H0 := Lib.hid hb0; clear hb0)
      | (go_at_call 6; (with_reducible refine (HFew.out _ H0.out).mono ?_); rintro e w1 ⟨rfl, rfl⟩))
    (with_reducible refine (HNew.out _ H0.out).mono ?_)
    rintro e w1 (⟨k, er, her, rfl, hb1⟩ | ⟨g, rfl, hst⟩)
    · have heb : (er != 0) = true := by simpa using her
      clear her
      go_wp2
      go_ret
      exact ⟨rfl, hb1⟩
    generalize w0.heap.size = B at hst
    have HT := Lib.hid hst
    clear hst H0 HNew HFew
    by_cases hn0 : n = 0
    · have HR := Lib.hid (res_any HT.out.grd 0 0)
      have hnil : ps = [] := List.eq_nil_of_length_eq_zero (by have := HNN.out; omega)
      have h7 : resA (ps.map gnew) 0 0 = 7 := by rw [hnil]; rfl
      rw [h7] at HR
      unfold ptr at HR
      have hnb : ((n : Int) == 0) = true := by simp [hn0]
      clear h7 hnil hn0
      go_wp2_with (go_at_call 11; (with_reducible refine HR.out.mono ?_); rintro e w2 ⟨rfl, hd⟩)
      go_ret
      exact ⟨rfl, (HT.out.did hd (resG_p _ _ _)).bel⟩
    have hnb : ((n : Int) == 0) = false := by
      rw [beq_eq_false_iff_ne]
      omega
    go_wp2
    go_loopw [12] (fun vi wr => ∃ (k : Nat) (L : List Gt), vi = .int .i64 (k : Int) ∧ k ≤ m ∧ Hid (St w wr g B ps L)) (fun vi _ => m - (intOf vi).toNat)
    case atStart => exact ⟨0, _, rfl, Nat.zero_le _, HT⟩
    case round =>
      obtain ⟨k, L, rfl, hk, HI⟩ := hrel
      clear HT
      by_cases hkm : k < m
      · obtain ⟨x, hx⟩ : ∃ x, acts[k]? = some x := ⟨_, List.getElem?_eq_getElem (by have := HMM.out; omega)⟩
        obtain ⟨b, o, rfl, hbl⟩ := HA.out.at_ hx
        have hAw := HA.out.below HI.out.bel
        have c1 := hAw.get hx 1 (u := .int .i64 x.p) rfl
        have c2 := hAw.get hx 2 (u := .int .i64 x.now) rfl
        have c3 := hAw.get hx 3 (u := .int .i64 x.n) rfl
        have HSend : Hid (Calls Try.prog 9 #[.pointer (some ⟨g, 0, none⟩), .int .i64 x.p, .int .i64 x.now] wr.drew fun e w' => ∃ me, e = .returned (.int .i64 me) ∧ (w'.cell? ⟨b, o + k * 4 + 1, none⟩ = some (.int .i64 x.p) ∧ w'.cell? ⟨b, o + k * 4 + 2, none⟩ = some (.int .i64 x.now) ∧ w'.cell? ⟨b, o + k * 4 + 3, none⟩ = some (.int .i64 x.n)) ∧ Hid (St w w' g B ps (sendG L x.p x.now))) := Lib.hid ((send_any (HI.out.grd.drewN 1) x.p x.now).mono fun e w' ⟨he, hd⟩ => by
          have hst := (HI.out.below (w' := wr.drewN 1) ⟨rfl, rfl, rfl, Nat.le_refl _, fun _ _ => rfl⟩).did hd (sendG_p _ _ _)
          have hAw' := HA.out.below hst.bel
          exact ⟨_, he, ⟨hAw'.get hx 1 rfl, hAw'.get hx 2 rfl, hAw'.get hx 3 rfl⟩, Lib.hid hst⟩)
        have HOver : Hid (∀ w', St w w' g B ps (sendG L x.p x.now) → Calls Try.prog 10 #[.pointer (some ⟨g, 0, none⟩), .int .i64 x.p, .int .i64 x.now, .int .i64 x.n] w'.drew fun e w'' => ∃ me, e = .returned (.int .i64 me) ∧ Hid (St w w'' g B ps (overG (sendG L x.p x.now) x.p x.now x.n))) := Lib.hid fun w' hst =>
          (over_any (hst.grd.drewN 1) x.p x.now x.n).mono fun e w'' ⟨he, hd⟩ => ⟨_, he, Lib.hid ((hst.below (w' := w'.drewN 1) ⟨rfl, rfl, rfl, Nat.le_refl _, fun _ _ => rfl⟩).did hd (overG_p _ _ _ _))⟩
        clear hx hAw
        go_wp2
        refine wp_region_still_tail 11 (by kernel_rfl) (by kernel_rfl) ?_
        simp only [List.take_succ_cons, List.take_zero, List.drop_succ_cons, List.drop_zero]
        change wpStill _ _ wr.drew _ _ _
        iterate 11 still_step
        refine wpStill_nil ?_
        clear c1 c2 c3
        go_wp2_with (go_at_call 9; (with_reducible refine HSend.out.mono ?_); rintro e w2 ⟨me, rfl, ⟨d1, d2, d3⟩, HS2⟩)
        refine wp_region_still_tail 16 (by kernel_rfl) (by kernel_rfl) ?_
        simp only [List.take_succ_cons, List.take_zero, List.drop_succ_cons, List.drop_zero]
        change wpStill _ _ w2.drew _ _ _
        iterate 16 still_step
        refine wpStill_nil ?_
        go_wp2_with (go_at_call 10; (with_reducible refine (HOver.out _ HS2.out).mono ?_); rintro e w3 ⟨me3, rfl, HS3⟩)
        go_roundw
        case rel => exact ⟨k + 1, _, by go_num, by omega, HS3⟩
        case measure => simp [intOf]; omega
      · obtain rfl : m = k := by omega
        clear HA HMM
        obtain ⟨kk, hkk⟩ : ∃ kk : Nat, a2 % (n : Int) = (kk : Int) := ⟨(a2 % (n : Int)).toNat, (Int.toNat_of_nonneg (Int.emod_nonneg _ (by omega))).symm⟩
        have hkn : kk < n := by
          have := Int.emod_lt_of_pos a2 (show (0 : Int) < (n : Int) by omega)
          omega
        obtain ⟨nf, hnf⟩ : ∃ nf, a3 % 50 = nf := ⟨_, rfl⟩
        have hf0 : 0 ≤ nf := by omega
        have hf1 : nf ≤ 49 := by omega
        obtain ⟨p, hp⟩ : ∃ p, ps[kk]? = some p := ⟨_, List.getElem?_eq_getElem (by have := HNN.out; omega)⟩
        obtain ⟨b, o, rfl, hbl⟩ := HP.out.at_ hp
        have c1 := (HP.out.below HI.out.bel).get hp 1 (u := .int .i64 p.seats) rfl
        obtain ⟨y, hy, rfl, hok⟩ := HI.out.gate hp
        obtain ⟨s0, s1⟩ := hok.p.seats
        have hres := res_any HI.out.grd (kk : Int) nf
        unfold ptr at hres
        by_cases hbig : y.p.seats < nf
        · rw [res_big hy hbig] at hres
          have HR := Lib.hid hres
          clear hp hy hok hres
          go_wp2_with (go_at_call 11; (with_reducible refine HR.out.mono ?_); rintro e w2 ⟨rfl, hd⟩)
          go_ret
          exact ⟨rfl, (HI.out.did hd (resG_p _ _ _)).bel⟩
        · obtain ⟨hr0, hr1⟩ := res_fit hy hf0 (by omega)
          rw [hr0] at hres
          have HR := Lib.hid hres
          have HD : Hid (∀ w2, Did wr g (fun i => i < B) (resG L (kk : Int) nf) w2 → St w w2 g B ps (resG L (kk : Int) nf)) := Lib.hid fun w2 hd => HI.out.did hd (resG_p _ _ _)
          have HFl : Hid (∀ w2, St w w2 g B ps (resG L (kk : Int) nf) → Calls Try.prog 12 #[.pointer (some ⟨g, 0, none⟩), .int .i64 (kk : Int)] w2 fun e w' => e = .returned (.int .i64 nf) ∧ w2 = w') := Lib.hid fun w2 hst => by
            have := flying_any hst.grd (kk : Int)
            rw [fly_at hr1] at this
            exact this
          have HSt : Hid (∀ w2, St w w2 g B ps (resG L (kk : Int) nf) → Calls Try.prog 8 #[.pointer (some ⟨g, 0, none⟩), .int .i64 (kk : Int), .int .i64 0] w2 fun e w' => e = .returned (.int .i64 0) ∧ w2 = w') := Lib.hid fun w2 hst => by
            have := state_any hst.grd (kk : Int) 0
            have hs : stateG (resG L (kk : Int) nf) (kk : Int) 0 = 0 := by
              unfold stateG
              rw [ans_get hr1]
              exact Bk.kind_of_closed 0 rfl
            rw [hs] at this
            exact this
          have HX := Lib.hid hr1
          generalize resG L (kk : Int) nf = L1 at HR HD HFl HSt HX
          clear hp hy hok hres hr0 hr1
          go_wp2_with (first
            | (go_at_call 11; (with_reducible refine HR.out.mono ?_); rintro e w2 ⟨rfl, hd⟩; have HS2 := Lib.hid (HD.out _ hd); clear hd)
            | (go_at_call 12; (with_reducible refine (HFl.out _ HS2.out).mono ?_); rintro e w3 ⟨rfl, rfl⟩)
            | (go_at_call 8; (with_reducible refine (HSt.out _ HS2.out).mono ?_); rintro e w3 ⟨rfl, rfl⟩))
          clear HR HD HFl HSt HI
          have HT2 : Hid (St w w2 g B ps L1 ∧ ∃ z, L1[kk]? = some z ∧ z.fl = nf) := Lib.hid ⟨HS2.out, _, HX.out, rfl⟩
          clear HS2 HX
          go_loopw [15] (fun vi wr => ∃ (i : Int) (L2 : List Gt), vi = .int .i64 i ∧ 0 ≤ i ∧ i ≤ nf ∧ Hid (St w wr g B ps L2 ∧ ∃ z, L2[kk]? = some z ∧ z.fl = nf - i)) (fun vi _ => (nf - intOf vi).toNat)
          case atStart => exact ⟨0, L1, rfl, Int.le_refl _, hf0, by rw [Int.sub_zero]; exact HT2⟩
          case round =>
            obtain ⟨i, L2, rfl, hi0, hi1, HJ⟩ := hrel
            clear HT2
            by_cases hin : i < nf
            · have hov : Hid (Calls Try.prog 10 #[.pointer (some ⟨g, 0, none⟩), .int .i64 (kk : Int), .int .i64 0, .int .i64 0] wr fun e w' => e = .returned (.int .i64 0) ∧ ∃ L3, Hid (St w w' g B ps L3 ∧ ∃ z, L3[kk]? = some z ∧ z.fl = nf - (i + 1))) := Lib.hid (by
                obtain ⟨hst, z, hz, hzf⟩ := HJ.out
                have h := over_any hst.grd (kk : Int) 0 0
                obtain ⟨h0, h1⟩ := over_fit hz (by omega)
                rw [h0] at h
                exact h.mono fun e w' ⟨he, hd⟩ => ⟨he, _, Lib.hid ⟨hst.did hd (overG_p _ _ _ _), _, h1, by show z.fl - 1 = _; omega⟩⟩)
              clear HJ
              go_wp2_with (go_at_call 10; (with_reducible refine hov.out.mono ?_); rintro e w3 ⟨rfl, L3, HS3⟩)
              go_roundw
              case rel => exact ⟨i + 1, L3, by go_num, by omega, by omega, HS3⟩
              case measure => simp [intOf]; omega
            · obtain rfl : nf = i := by omega
              have hov : Hid (Calls Try.prog 10 #[.pointer (some ⟨g, 0, none⟩), .int .i64 (kk : Int), .int .i64 0, .int .i64 0] wr fun e w' => e = .returned (.int .i64 9) ∧ Below w.heap.size w w') := Lib.hid (by
                obtain ⟨hst, z, hz, hzf⟩ := HJ.out
                have h := over_any hst.grd (kk : Int) 0 0
                rw [over_end hz (by omega)] at h
                exact h.mono fun e w' ⟨he, hd⟩ => ⟨he, (hst.did hd (overG_p _ _ _ _)).bel⟩)
              clear HJ
              go_wp2_with (go_at_call 10; (with_reducible refine hov.out.mono ?_); rintro e w3 ⟨rfl, hb3⟩)
              go_ret
              exact ⟨rfl, hb3⟩

set_option maxRecDepth 100000 in
theorem lifted (os : Os) (started : os.Started) (H : Type) (enc : TypeId × Value → H) :
    ReturnsInHanded {} Try.checked os 4 .any (Rows.guardRestoresSpec.pre6 enc Try.prog Try.f4 Rows.guardRestoresRow.domain false) (Rows.guardRestoresSpec.post enc Try.prog Try.f4 false true false false) := by
  refine returnsInHanded_of_change_sized (C := Try.checked) own started (by kernel_rfl) Try.func4
    (ChangeSpec.witness6 (enc := enc) (C := Try.checked) false ⟨#[], #[.slice none 0 0, .slice none 0 0, .int .u8 0, .int .u8 0], []⟩ 8 (by kernel_rfl) (by kernel_rfl) (by kernel_rfl) (by kernel_rfl)) ?_
  intro W base args ds gs before hval0 hW _ _ _
  have hval : ∀ (j : Nat) t v, Try.f4.params[j]? = some t → args[j]? = some v → Value.okWide Try.prog W .any base t v := hval0
  have hW' := hW
  obtain ⟨p, q, hA0, hV, rfl, _, _⟩ := hW
  have hA : DataW.TrodAll enc Try.prog W 0 (fun _ => true) true Try.f4.params.toList args.toList ds p := hA0
  rw [Try.params4] at hA hval
  obtain ⟨rfl, rfl⟩ := trodVars_none hV
  obtain ⟨v0, vs0, d0, ds0, p0, q0, hargs, rfl, rfl, h0, r0⟩ := trodAll_cons hA
  obtain ⟨v1, vs1, d1, ds1, p1, q1, rfl, rfl, rfl, h1, r1⟩ := trodAll_cons r0
  obtain ⟨v2, vs2, d2, ds2, p2, q2, rfl, rfl, rfl, h2, r2⟩ := trodAll_cons r1
  obtain ⟨v3, vs3, d3, ds3, p3, q3, rfl, rfl, rfl, h3, r3⟩ := trodAll_cons r2
  obtain ⟨rfl, rfl, rfl⟩ := trodAll_nil r3
  obtain rfl : args = #[v0, v1, v2, v3] := by cases args; simp_all
  obtain ⟨a0, len0, cap0, rfl⟩ := okWide_slice Try.underlying22 (hval 0 22 v0 rfl rfl)
  obtain ⟨a1, len1, cap1, rfl⟩ := okWide_slice Try.underlying23 (hval 1 23 v1 rfl rfl)
  obtain ⟨a2, rfl, rfl, rfl, w2⟩ := open_int Try.underlying5 (hval 2 5 v2 rfl rfl) h2
  obtain ⟨a3, rfl, rfl, rfl, w3⟩ := open_int Try.underlying5 (hval 3 5 v3 rfl rfl) h3
  clear hA0 hval0
  simp only [List.append_nil] at hW'
  have hlt0 : ∀ x ∈ p0, x.block < W.heap.size := fun x hx => by simpa using hW'.lt x (by simp [hx])
  have hlt1 : ∀ x ∈ p1, x.block < W.heap.size := fun x hx => by simpa using hW'.lt x (by simp [hx])
  obtain ⟨l0, hl0, hc0, hm0, hg0, hf0⟩ := arg_parties h0
  subst hl0
  obtain ⟨l1, hl1, hc1, hm1, hg1, hf1⟩ := arg_acts h1
  subst hl1
  refine (walk a0 l0 cap0 a1 l1 cap1 a2 a3 W hf0 hg0 hm0 hf1 hm1 (fits w2 rfl rfl) (fits w3 rfl rfl)).mono fun e W' ⟨he, bel⟩ => ?_
  subst he
  exact ⟨_, rfl, _, _, _, [], _, [], hW', trodAll_mk1 (shut_bool Try.underlying4 _), (trodAll_cons_mk (Below.trod laidOut (by kernel_rfl) (of_decide_eq_true (by kernel_rfl)) h0 bel hlt0) (trodAll_cons_mk (Below.trod laidOut (by kernel_rfl) (of_decide_eq_true (by kernel_rfl)) h1 bel hlt1) (trodAll_cons_mk (shut_int Try.underlying5 w2) (trodAll_cons_mk (shut_int Try.underlying5 w3) trodAll_mk0)))), rfl, bel.frame _, fun h => by cases h⟩

/-- the statement -/
theorem proved : Rows.GuardRestoresSaid :=
  OpenClaim.holds_of_wide 4 Try.f4 rfl rfl rfl rfl rfl rfl rfl ⟨rfl, rfl, rfl, rfl, rfl⟩ rfl rfl rfl rfl rfl (by kernel_rfl) Try.func4 (by kernel_rfl)
    (of_decide_eq_true (by kernel_rfl)) (by unfold Func.isWrapper; first | (rw [if_pos (by decide +kernel)]; kernel_rfl) | (rw [if_neg (by decide +kernel)]; exact ⟨rfl, rfl⟩))
    (fun os started H enc _ => lifted os started H enc)
#print axioms proved


end Go.Proofs.Ytapnnlebokcmgaa.guardRestores
