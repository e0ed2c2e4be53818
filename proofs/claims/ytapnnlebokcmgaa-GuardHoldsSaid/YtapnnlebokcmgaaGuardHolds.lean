/-
  The statement GuardHoldsSaid: for every input the law function GuardHolds returns true (never are more in flight than there are seats; while a breaker is open nothing goes), and the arguments read afterwards as before.
  Conditions: none beyond the statement's own.
-/
import Derived.Test.YtapnnlebokcmgaaGrdLaw
import Derived.Deep.CutBlock
import Derived.Deep.DeepCutAuto
import Derived.BigQuiet
import Derived.Deep.QuietTactic
namespace Go.Proofs.Ytapnnlebokcmgaa.guardHolds
open Go.Proofs.Ytapnnlebokcmgaa.Gd
open Go.Proofs.Ytapnnlebokcmgaa.Bk (S Brk Aft kind ret_int ret_bool)
open Go.ChangeShapes Go.WideShapes Go.ChangeAt Go.RowKit

set_option maxHeartbeats 4000000 in
set_option maxRecDepth 100000 in
theorem walk (A0 : Option Addr) (ps : List Pty) (ca : Nat) (A1 : Option Addr) (acts : List Ac) (cb : Nat) (w : World) (hps : Els Pty.cells 5 w w.heap.size A0 ps) (hsz : ∀ p ∈ ps, p.nm.size ≤ 9223372036854775807) (hn : ps.length ≤ 9223372036854775807)
    (hac : Els Ac.cells 4 w w.heap.size A1 acts) (hm : acts.length ≤ 9223372036854775807) :
    Calls Try.prog 3 #[.slice A0 ps.length ca, .slice A1 acts.length cb] w fun e w' => e = .returned (.bool true) ∧ Below w.heap.size w w' := by
  obtain ⟨n, hnn⟩ : ∃ n, n = ps.length := ⟨_, rfl⟩
  obtain ⟨m, hmm⟩ : ∃ m, m = acts.length := ⟨_, rfl⟩
  have hfew : ∀ w', Below w.heap.size w w' → Calls Try.prog 6 #[.slice A0 ps.length ca] w' fun e w'' => e = .returned (.bool (fewB ps)) ∧ w' = w'' := fun w' hb =>
    few_any A0 ps ca w' (fun i p hp => by obtain ⟨b, o, e, hlt, hc⟩ := hps.below hb i p hp; exact ⟨b, o, e, Nat.lt_of_lt_of_le hlt hb.size, hc⟩) hsz hn
  rw [← hnn] at hfew hn ⊢
  rw [← hmm] at hm ⊢
  by_cases h8 : 8 < n
  · clear hfew hps hac hsz
    go_enter Try.func3, Try.ntmps3
    go_wp2_with (go_at_call 5; (with_reducible refine (awake_any _).mono ?_); rintro e w0 ⟨rfl, hb0⟩)
    go_ret
    exact ⟨rfl, hb0⟩
  have HFew := Lib.hid hfew
  have HNN := Lib.hid hnn
  have HMM := Lib.hid hmm
  clear hfew hnn hmm
  cases hff : fewB ps with
  | false =>
    rw [hff] at HFew
    clear hps hac hsz
    go_enter Try.func3, Try.ntmps3
    go_wp2_with (first
      | (go_at_call 5; (with_reducible refine (awake_any _).mono ?_); rintro e w0 ⟨rfl, hb0⟩; have H0 := Lib.hid hb0; clear hb0)
      | (go_at_call 6; (with_reducible refine (HFew.out _ H0.out).mono ?_); rintro e w1 ⟨rfl, rfl⟩))
    go_ret
    exact ⟨rfl, H0.out⟩
  | true =>
    rw [hff] at HFew
    by_cases h50 : 50 < m
    · clear hps hac hsz
      go_enter Try.func3, Try.ntmps3
      go_wp2_with (first
        | (go_at_call 5; (with_reducible refine (awake_any _).mono ?_); rintro e w0 ⟨rfl, hb0⟩; have H0 := Lib.hid hb0; clear hb0)
        | (go_at_call 6; (with_reducible refine (HFew.out _ H0.out).mono ?_); rintro e w1 ⟨rfl, rfl⟩))
      go_ret
      exact ⟨rfl, H0.out⟩
    have hnew : ∀ w', Below w.heap.size w w' → Calls Try.prog 7 #[.slice A0 n ca] w' fun e w'' =>
        (∃ k er, er ≠ 0 ∧ e = .returned (.tuple #[.pointer none, .int .i64 k, .int .i64 er]) ∧ Below w.heap.size w w'') ∨
        ∃ g, e = .returned (.tuple #[.pointer (some ⟨g, 0, none⟩), .int .i64 (-1), .int .i64 0]) ∧ St w w'' g w'.heap.size ps (ps.map gnew) := fun w' hb => by
      rw [HNN.out]
      have hnp := HNN.out
      refine (new_any A0 ps ca w' (fun i p hp => by obtain ⟨b, o, e, hlt, hc⟩ := hps.below hb i p hp; exact ⟨b, o, e, Nat.lt_of_lt_of_le hlt hb.size, hc⟩) (fun p hp => by have := fewB_yes hff p hp; omega) (by omega)).mono fun e w'' h => ?_
      exact new_law h (by have := HNN.out; omega) hb
    have HNew := Lib.hid hnew
    have HA := Lib.hid hac
    have HP := Lib.hid hps
    clear hnew hac hps hsz hff
    go_enter Try.func3, Try.ntmps3
    go_wp2_with (first
      | (go_at_call 5; (with_reducible refine (awake_any _).mono ?_); rintro e w0 ⟨rfl, hb0⟩; have H0 := Lib.hid hb0; clear hb0)
      | (go_at_call 6; (with_reducible refine (HFew.out _ H0.out).mono ?_); rintro e w1 ⟨rfl, rfl⟩))
    (with_reducible refine (HNew.out _ H0.out).mono ?_)
    rintro e w1 (⟨k, er, her, rfl, hb1⟩ | ⟨g, rfl, hst⟩)
    · have heb : (er != 0) = true := by simpa using her
      clear her
      go_wp2
      go_ret
      exact ⟨rfl, hb1⟩
    generalize w0.heap.size = B at hst
    have HT := Lib.hid hst
    clear hst H0 HNew HFew
    go_wp2
    go_loopw [8] (fun vi wr => ∃ (k : Nat) (L : List Gt), vi = .int .i64 (k : Int) ∧ k ≤ m ∧ Hid (St w wr g B ps L)) (fun vi _ => m - (intOf vi).toNat)
    case atStart => exact ⟨0, _, rfl, Nat.zero_le _, HT⟩
    case round =>
      obtain ⟨k, L, rfl, hk, HI⟩ := hrel
      clear HT
      by_cases hkm : k < m
      · obtain ⟨x, hx⟩ : ∃ x, acts[k]? = some x := ⟨_, List.getElem?_eq_getElem (by have := HMM.out; omega)⟩
        obtain ⟨b, o, rfl, hbl⟩ := HA.out.at_ hx
        have hAw := HA.out.below HI.out.bel
        have c0 := hAw.get hx 0 (u := .int .i64 x.kd) rfl
        have c1 := hAw.get hx 1 (u := .int .i64 x.p) rfl
        have c2 := hAw.get hx 2 (u := .int .i64 x.now) rfl
        have c3 := hAw.get hx 3 (u := .int .i64 x.n) rfl
        rw [Nat.add_zero] at c0
        have HI1 := Lib.hid (HI.out.below ((Below.refl wr.heap.size wr).alloc (Nat.le_refl _) (.cells #[.int .i64 x.kd, .int .i64 x.p, .int .i64 x.now, .int .i64 x.n] 31)))
        have HState := Lib.hid (state_any HI1.out.grd x.p x.now)
        have hsend := send_any HI1.out.grd x.p x.now
        have HOver := Lib.hid (over_any HI1.out.grd x.p x.now x.n)
        have HRes := Lib.hid (res_any HI1.out.grd x.p x.n)
        have hmay : mayG L x.p x.now = 0 → stateG L x.p x.now ≠ 1 := may_state
        unfold ptr at HState hsend HOver HRes
        clear hx hAw HI
        generalize mayG L x.p x.now = me at hsend hmay
        generalize stateG L x.p x.now = kd at HState hmay
        generalize overA L x.p x.n = oa at HOver
        generalize resA L x.p x.n = ra at HRes
        have HSend := Lib.hid hsend
        clear hsend
        go_upto_block 2 with (go_at_call 8; (with_reducible refine HState.out.mono ?_); rintro e w2 ⟨rfl, rfl⟩)
        clear HState c0 c1 c2 c3
        go_cut [8] (fun vk wc => vk = .int .i64 (k : Int) ∧ ∃ L' : List Gt, Hid (St w wc g B ps L'))
        case first =>
          by_cases k0 : x.kd = 0
          · have e0 : (x.kd == 0) = true := by simp [k0]
            clear k0
            by_cases hme : me = 0
            · have em : (me == 0) = true := by simp [hme]
              have ek : (kd == 1) = false := by simpa using hmay hme
              clear hmay hme
              as_aux_lemma =>
                go_wp2_with (first
            | (go_at_call 9; (with_reducible refine HSend.out.mono ?_); rintro e w3 ⟨rfl, hq3⟩; have H3 := Lib.hid hq3; clear hq3)
            | (go_at_call 10; (with_reducible refine HOver.out.mono ?_); rintro e w3 ⟨rfl, hq3⟩; have H3 := Lib.hid hq3; clear hq3)
            | (go_at_call 11; (with_reducible refine HRes.out.mono ?_); rintro e w3 ⟨rfl, hq3⟩; have H3 := Lib.hid hq3; clear hq3))
                go_meet
                exact ⟨rfl, _, Lib.hid (HI1.out.did H3.out (sendG_p _ _ _))⟩
            · have em : (me == 0) = false := by simpa using hme
              clear hmay hme
              as_aux_lemma =>
                go_wp2_with (first
            | (go_at_call 9; (with_reducible refine HSend.out.mono ?_); rintro e w3 ⟨rfl, hq3⟩; have H3 := Lib.hid hq3; clear hq3)
            | (go_at_call 10; (with_reducible refine HOver.out.mono ?_); rintro e w3 ⟨rfl, hq3⟩; have H3 := Lib.hid hq3; clear hq3)
            | (go_at_call 11; (with_reducible refine HRes.out.mono ?_); rintro e w3 ⟨rfl, hq3⟩; have H3 := Lib.hid hq3; clear hq3))
                go_meet
                exact ⟨rfl, _, Lib.hid (HI1.out.did H3.out (sendG_p _ _ _))⟩
          have e0 : (x.kd == 0) = false := by simp [k0]
          by_cases k1 : x.kd = 1
          · have e1 : (x.kd == 1) = true := by simp [k1]
            clear k0 k1
            by_cases hme : me = 0
            · have em : (me == 0) = true := by simp [hme]
              have ek : (kd == 1) = false := by simpa using hmay hme
              clear hmay hme
              as_aux_lemma =>
                go_wp2_with (first
            | (go_at_call 9; (with_reducible refine HSend.out.mono ?_); rintro e w3 ⟨rfl, hq3⟩; have H3 := Lib.hid hq3; clear hq3)
            | (go_at_call 10; (with_reducible refine HOver.out.mono ?_); rintro e w3 ⟨rfl, hq3⟩; have H3 := Lib.hid hq3; clear hq3)
            | (go_at_call 11; (with_reducible refine HRes.out.mono ?_); rintro e w3 ⟨rfl, hq3⟩; have H3 := Lib.hid hq3; clear hq3))
                go_meet
                exact ⟨rfl, _, Lib.hid (HI1.out.did H3.out (sendG_p _ _ _))⟩
            · have em : (me == 0) = false := by simpa using hme
              clear hmay hme
              as_aux_lemma =>
                go_wp2_with (first
            | (go_at_call 9; (with_reducible refine HSend.out.mono ?_); rintro e w3 ⟨rfl, hq3⟩; have H3 := Lib.hid hq3; clear hq3)
            | (go_at_call 10; (with_reducible refine HOver.out.mono ?_); rintro e w3 ⟨rfl, hq3⟩; have H3 := Lib.hid hq3; clear hq3)
            | (go_at_call 11; (with_reducible refine HRes.out.mono ?_); rintro e w3 ⟨rfl, hq3⟩; have H3 := Lib.hid hq3; clear hq3))
                go_meet
                exact ⟨rfl, _, Lib.hid (HI1.out.did H3.out (sendG_p _ _ _))⟩
          have e1 : (x.kd == 1) = false := by simp [k1]
          by_cases k2 : x.kd = 2
          · have e2 : (x.kd == 2) = true := by simp [k2]
            clear k0 k1 k2
            by_cases hme : me = 0
            · have em : (me == 0) = true := by simp [hme]
              have ek : (kd == 1) = false := by simpa using hmay hme
              clear hmay hme
              as_aux_lemma =>
                go_wp2_with (first
            | (go_at_call 9; (with_reducible refine HSend.out.mono ?_); rintro e w3 ⟨rfl, hq3⟩; have H3 := Lib.hid hq3; clear hq3)
            | (go_at_call 10; (with_reducible refine HOver.out.mono ?_); rintro e w3 ⟨rfl, hq3⟩; have H3 := Lib.hid hq3; clear hq3)
            | (go_at_call 11; (with_reducible refine HRes.out.mono ?_); rintro e w3 ⟨rfl, hq3⟩; have H3 := Lib.hid hq3; clear hq3))
                go_meet
                exact ⟨rfl, _, Lib.hid (HI1.out.did H3.out (sendG_p _ _ _))⟩
            · have em : (me == 0) = false := by simpa using hme
              clear hmay hme
              as_aux_lemma =>
                go_wp2_with (first
            | (go_at_call 9; (with_reducible refine HSend.out.mono ?_); rintro e w3 ⟨rfl, hq3⟩; have H3 := Lib.hid hq3; clear hq3)
            | (go_at_call 10; (with_reducible refine HOver.out.mono ?_); rintro e w3 ⟨rfl, hq3⟩; have H3 := Lib.hid hq3; clear hq3)
            | (go_at_call 11; (with_reducible refine HRes.out.mono ?_); rintro e w3 ⟨rfl, hq3⟩; have H3 := Lib.hid hq3; clear hq3))
                go_meet
                exact ⟨rfl, _, Lib.hid (HI1.out.did H3.out (sendG_p _ _ _))⟩
          have e2 : (x.kd == 2) = false := by simp [k2]
          clear hmay HSend
          by_cases k3 : x.kd = 3
          · have e3 : (x.kd == 3) = true := by simp [k3]
            clear k0 k1 k2 k3
            as_aux_lemma =>
              go_wp2_with (first
            | (go_at_call 9; (with_reducible refine HSend.out.mono ?_); rintro e w3 ⟨rfl, hq3⟩; have H3 := Lib.hid hq3; clear hq3)
            | (go_at_call 10; (with_reducible refine HOver.out.mono ?_); rintro e w3 ⟨rfl, hq3⟩; have H3 := Lib.hid hq3; clear hq3)
            | (go_at_call 11; (with_reducible refine HRes.out.mono ?_); rintro e w3 ⟨rfl, hq3⟩; have H3 := Lib.hid hq3; clear hq3))
              go_meet
              exact ⟨rfl, _, Lib.hid (HI1.out.did H3.out (overG_p _ _ _ _))⟩
          have e3 : (x.kd == 3) = false := by simp [k3]
          by_cases k4 : x.kd = 4
          · have e4 : (x.kd == 4) = true := by simp [k4]
            clear k0 k1 k2 k3 k4
            as_aux_lemma =>
              go_wp2_with (first
            | (go_at_call 9; (with_reducible refine HSend.out.mono ?_); rintro e w3 ⟨rfl, hq3⟩; have H3 := Lib.hid hq3; clear hq3)
            | (go_at_call 10; (with_reducible refine HOver.out.mono ?_); rintro e w3 ⟨rfl, hq3⟩; have H3 := Lib.hid hq3; clear hq3)
            | (go_at_call 11; (with_reducible refine HRes.out.mono ?_); rintro e w3 ⟨rfl, hq3⟩; have H3 := Lib.hid hq3; clear hq3))
              go_meet
              exact ⟨rfl, _, Lib.hid (HI1.out.did H3.out (overG_p _ _ _ _))⟩
          have e4 : (x.kd == 4) = false := by simp [k4]
          by_cases k5 : x.kd = 5
          · have e5 : (x.kd == 5) = true := by simp [k5]
            clear k0 k1 k2 k3 k4 k5
            as_aux_lemma =>
              go_wp2_with (first
            | (go_at_call 9; (with_reducible refine HSend.out.mono ?_); rintro e w3 ⟨rfl, hq3⟩; have H3 := Lib.hid hq3; clear hq3)
            | (go_at_call 10; (with_reducible refine HOver.out.mono ?_); rintro e w3 ⟨rfl, hq3⟩; have H3 := Lib.hid hq3; clear hq3)
            | (go_at_call 11; (with_reducible refine HRes.out.mono ?_); rintro e w3 ⟨rfl, hq3⟩; have H3 := Lib.hid hq3; clear hq3))
              go_meet
              exact ⟨rfl, _, Lib.hid (HI1.out.did H3.out (overG_p _ _ _ _))⟩
          have e5 : (x.kd == 5) = false := by simp [k5]
          by_cases k6 : x.kd = 6
          · have e6 : (x.kd == 6) = true := by simp [k6]
            clear k0 k1 k2 k3 k4 k5 k6
            as_aux_lemma =>
              go_wp2_with (first
            | (go_at_call 9; (with_reducible refine HSend.out.mono ?_); rintro e w3 ⟨rfl, hq3⟩; have H3 := Lib.hid hq3; clear hq3)
            | (go_at_call 10; (with_reducible refine HOver.out.mono ?_); rintro e w3 ⟨rfl, hq3⟩; have H3 := Lib.hid hq3; clear hq3)
            | (go_at_call 11; (with_reducible refine HRes.out.mono ?_); rintro e w3 ⟨rfl, hq3⟩; have H3 := Lib.hid hq3; clear hq3))
              go_meet
              exact ⟨rfl, _, Lib.hid (HI1.out.did H3.out (resG_p _ _ _))⟩
          have e6 : (x.kd == 6) = false := by simp [k6]
          clear k0 k1 k2 k3 k4 k5 k6
          as_aux_lemma =>
            go_wp2_with (fail)
            go_meet
            exact ⟨rfl, _, HI1⟩

        case rest =>
          obtain ⟨rfl, L', HI'⟩ := hcut
          clear HSend HOver HRes HI1 hmay
          go_wp2
          go_loopw [11] (fun vp wi => ∃ j : Nat, vp = .int .i64 (j : Int) ∧ j ≤ n ∧ Hid (St w wi g B ps L')) (fun vp _ => n - (intOf vp).toNat)
          case atStart => exact ⟨0, rfl, Nat.zero_le _, HI'⟩
          case round =>
            obtain ⟨j, rfl, hj, HJ⟩ := hrel
            clear HI'
            by_cases hjn : j < n
            · obtain ⟨p, hp⟩ : ∃ p, ps[j]? = some p := ⟨_, List.getElem?_eq_getElem (by have := HNN.out; omega)⟩
              obtain ⟨bp, op, rfl, hbp⟩ := HP.out.at_ hp
              have c1 := (HP.out.below HJ.out.bel).get hp 1 (u := .int .i64 p.seats) rfl
              obtain ⟨y, hy, rfl, hok⟩ := HJ.out.gate hp
              obtain ⟨f0, f1⟩ := hok.fl
              have hfl : ∀ q, Calls Try.prog 12 #[.pointer (some ⟨g, 0, none⟩), .int .i64 (j : Int)] (wr.drewN q) fun e w' => e = .returned (.int .i64 y.fl) ∧ w' = wr.drewN q := fun q => by
                have := flying_any (HJ.out.grd.drewN q) (j : Int)
                rw [fly_at hy] at this
                exact this.mono fun e w' ⟨h1, h2⟩ => ⟨h1, h2.symm⟩
              have HF := Lib.hid hfl
              have d0 : decide (y.fl < 0) = false := decide_eq_false (by omega)
              have HE : Hid (∀ q, St w (wr.drewN q) g B ps L') := Lib.hid fun q => HJ.out.below ⟨rfl, rfl, rfl, Nat.le_refl _, fun _ _ => rfl⟩
              have hpse := hok.p.seats
              clear hp hy hok hfl HJ
              go_wp2
              go_quiet ((go_at_call 12; exact Calls.quiet_of_same (HF.out _)))
              go_wp2
              go_roundw
              case rel => exact ⟨j + 1, by go_num, by omega, Lib.hid (HE.out _)⟩
              case measure => simp [intOf]; omega
            · obtain rfl : n = j := by omega
              go_wp2
              go_roundw
              case rel => exact ⟨k + 1, L', by go_num, by omega, HJ⟩
              case measure => simp [intOf]; omega
      · obtain rfl : m = k := by omega
        go_wp2
        go_ret
        exact ⟨rfl, HI.out.bel⟩

set_option maxRecDepth 100000 in
theorem lifted (os : Os) (started : os.Started) (H : Type) (enc : TypeId × Value → H) :
    ReturnsInHanded {} Try.checked os 3 .any (Rows.guardHoldsSpec.pre6 enc Try.prog Try.f3 Rows.guardHoldsRow.domain false) (Rows.guardHoldsSpec.post enc Try.prog Try.f3 false true false false) := by
  refine returnsInHanded_of_change_sized (C := Try.checked) own started (by kernel_rfl) Try.func3
    (ChangeSpec.witness6 (enc := enc) (C := Try.checked) false ⟨#[], #[.slice none 0 0, .slice none 0 0], []⟩ 8 (by kernel_rfl) (by kernel_rfl) (by kernel_rfl) (by kernel_rfl)) ?_
  intro W base args ds gs before hval0 hW _ _ _
  have hval : ∀ (j : Nat) t v, Try.f3.params[j]? = some t → args[j]? = some v → Value.okWide Try.prog W .any base t v := hval0
  have hW' := hW
  obtain ⟨p, q, hA0, hV, rfl, _, _⟩ := hW
  have hA : DataW.TrodAll enc Try.prog W 0 (fun _ => true) true Try.f3.params.toList args.toList ds p := hA0
  rw [Try.params3] at hA hval
  obtain ⟨rfl, rfl⟩ := trodVars_none hV
  obtain ⟨v0, vs0, d0, ds0, p0, q0, hargs, rfl, rfl, h0, r0⟩ := trodAll_cons hA
  obtain ⟨v1, vs1, d1, ds1, p1, q1, rfl, rfl, rfl, h1, r1⟩ := trodAll_cons r0
  obtain ⟨rfl, rfl, rfl⟩ := trodAll_nil r1
  obtain rfl : args = #[v0, v1] := by cases args; simp_all
  obtain ⟨a0, len0, cap0, rfl⟩ := okWide_slice Try.underlying22 (hval 0 22 v0 rfl rfl)
  obtain ⟨a1, len1, cap1, rfl⟩ := okWide_slice Try.underlying23 (hval 1 23 v1 rfl rfl)
  clear hA0 hval0
  simp only [List.append_nil] at hW'
  have hlt0 : ∀ x ∈ p0, x.block < W.heap.size := fun x hx => by simpa using hW'.lt x (by simp [hx])
  have hlt1 : ∀ x ∈ p1, x.block < W.heap.size := fun x hx => by simpa using hW'.lt x (by simp [hx])
  obtain ⟨l0, hl0, hc0, hm0, hg0, hf0⟩ := arg_parties h0
  subst hl0
  obtain ⟨l1, hl1, hc1, hm1, hg1, hf1⟩ := arg_acts h1
  subst hl1
  refine (walk a0 l0 cap0 a1 l1 cap1 W hf0 hg0 hm0 hf1 hm1).mono fun e W' ⟨he, bel⟩ => ?_
  subst he
  exact ⟨_, rfl, _, _, _, [], _, [], hW', trodAll_mk1 (shut_bool Try.underlying4 _), (trodAll_cons_mk (Below.trod laidOut (by kernel_rfl) (of_decide_eq_true (by kernel_rfl)) h0 bel hlt0) (trodAll_cons_mk (Below.trod laidOut (by kernel_rfl) (of_decide_eq_true (by kernel_rfl)) h1 bel hlt1) trodAll_mk0)), rfl, bel.frame _, fun h => by cases h⟩

/-- the statement -/
theorem proved : Rows.GuardHoldsSaid :=
  OpenClaim.holds_of_wide 3 Try.f3 rfl rfl rfl rfl rfl rfl rfl ⟨rfl, rfl, rfl, rfl, rfl⟩ rfl rfl rfl rfl rfl (by kernel_rfl) Try.func3 (by kernel_rfl)
    (of_decide_eq_true (by kernel_rfl)) (by unfold Func.isWrapper; first | (rw [if_pos (by decide +kernel)]; kernel_rfl) | (rw [if_neg (by decide +kernel)]; exact ⟨rfl, rfl⟩))
    (fun os started H enc _ => lifted os started H enc)
#print axioms proved


end Go.Proofs.Ytapnnlebokcmgaa.guardHolds
