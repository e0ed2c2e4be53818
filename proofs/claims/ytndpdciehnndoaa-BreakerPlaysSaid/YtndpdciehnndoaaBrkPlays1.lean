/-
  The law function BreakerPlays where it plays: acts of at most 60, numbers that a breaker may have.
  Conditions: as the theorem names them.
-/
import Derived.Test.YtndpdciehnndoaaBrkPlays0
import Derived.StillTailTactics
namespace Go.Proofs.Ytndpdciehnndoaa.Bk
open Go.RowKit

set_option maxHeartbeats 16000000 in
set_option maxRecDepth 100000 in
theorem walk_main (t c p : Int) (A0 : Option Addr) (n ca : Nat) (f : Nat → Nat → Int) (w : World) (h60 : ¬ 60 < n) (ht : 1 ≤ t ∧ t ≤ 1000) (hc : 0 ≤ c ∧ c ≤ 1099511627776) (hp : 1 ≤ p ∧ p ≤ 1000) (hf : ∀ i, i < n → IntsAt w w.heap.size A0 2 i (f i)) :
    Calls Try.prog 3 #[.int .i64 t, .int .i64 c, .int .i64 p, .slice A0 n ca] w fun e w' => e = .returned (.bool true) ∧ Below w.heap.size w w' := by
  have HN := Lib.hid fun w => new_any w ht hc hp
  have HF := Lib.hid hf
  obtain ⟨t1, t2⟩ := ht; obtain ⟨c1, c2⟩ := hc; obtain ⟨p1, p2⟩ := hp
  clear hf
  go_enter Try.func3, Try.ntmps3
  go_wp2_with (first
    | (go_at_call 6; (with_reducible refine (awake_any _).mono ?_); rintro e w0 ⟨rfl, hb0⟩; have H0 := Lib.hid hb0; clear hb0)
    | (go_at_call 7; (with_reducible refine (HN.out _).mono ?_); rintro e w1 ⟨rfl, hq1, hb1⟩; have H1 := Lib.hid (And.intro hq1 hb1); clear hq1 hb1))
  have hT : At w (w1.alloc (.cells #[.bool false, .int .i64 0, .int .i64 0, .int .i64 0] 27)) w0.heap.size w1.heap.size (new t c p) (refOf (new t c p)) := by
    have hb := H0.out.trans (H1.out.2.mono H0.out.size)
    have hl := H1.out.1.box.lt
    exact ⟨H0.out.size, hb.size, by omega, hb.alloc hb.size _, ⟨H1.out.1.box.alloc _, H1.out.1.ok⟩, Box.new w1 _ _⟩
  generalize (w1.alloc (.cells #[.bool false, .int .i64 0, .int .i64 0, .int .i64 0] 27)) = W0 at hT ⊢
  generalize w0.heap.size = g at hT ⊢
  generalize w1.heap.size = gs at hT ⊢
  have HT := Lib.hid hT
  clear hT H0 H1 HN
  go_loopw [11] (fun vi wr => ∃ (k : Nat) (s : S), vi = .int .i64 (k : Int) ∧ k ≤ n ∧ s.trip = t ∧ s.cool = c ∧ s.probes = p ∧ Hid (At w wr g gs s (refOf s))) (fun vi _ => n - (intOf vi).toNat)
  case atStart => exact ⟨0, _, rfl, Nat.zero_le _, rfl, rfl, rfl, HT.out⟩
  case round =>
    obtain ⟨k, s, rfl, hk, st, sc, sp, HI⟩ := hrel
    by_cases hkn : k < n
    · have hat := HF.out k hkn
      obtain ⟨b, o, rfl⟩ : ∃ b o, A0 = some ⟨b, o, none⟩ := by obtain ⟨b, o, e, _⟩ := hat; exact ⟨b, o, e⟩
      have c0 := (hat.below HI.out.bel).get 0 (by omega)
      have c1' := (hat.below HI.out.bel).get 1 (by omega)
      have hbw : b < w.heap.size := by obtain ⟨b', o', e, h, _⟩ := hat; injection e with e; injection e with e1 e2; subst e1; exact h
      rw [Nat.add_zero] at c0
      generalize f k 0 = x at c0
      generalize f k 1 = d at c1'
      clear hat
      obtain ⟨kd, hkd⟩ : ∃ kd, kd = kind s d := ⟨_, rfl⟩
      obtain ⟨mb, hmb⟩ : ∃ mb, mb = may s d := ⟨_, rfl⟩
      obtain ⟨r, hr⟩ : ∃ r, r = refOf s := ⟨_, rfl⟩
      obtain ⟨s0, s1, s2, s3⟩ := HI.out.s4
      rw [← hr] at s0 s1 s2 s3
      have hS : ∀ u, Below wr.heap.size wr u → Calls Try.prog 8 #[.pointer (some ⟨g, 0, none⟩), .int .i64 d] u fun e u' => e = .returned (.int .i64 kd) ∧ u = u' := fun u hu => by
        rw [hkd]; exact state_any (HI.out.on hu).brk d
      have hM : ∀ u, Below wr.heap.size wr u → Calls Try.prog 10 #[.pointer (some ⟨g, 0, none⟩), .int .i64 d] u fun e u' => e = .returned (.bool mb) ∧ Below wr.heap.size wr u' := fun u hu => by
        rw [hmb]; exact (may_any (HI.out.on hu).brk d).mono fun e u' ⟨he, m, hw⟩ => ⟨he, by rw [hw]; exact hu.trans ((drewN_below u m).mono hu.size)⟩
      have hRK : ∀ u, Below wr.heap.size wr u → Calls Try.prog 9 #[.agg #[.bool r.op, .int .i64 r.fl, .int .i64 r.un, .int .i64 r.ou], .int .i64 d] u fun e u' => e = .returned (.int .i64 kd) ∧ Below wr.heap.size wr u' := fun u hu => by
        rw [hkd, ← rkind_of, ← hr]; exact (rkind_any r d u).mono fun e u' ⟨he, hw⟩ => ⟨he, hu.trans (hw.mono hu.size)⟩
      have hRM : ∀ u, Below wr.heap.size wr u → Calls Try.prog 11 #[.agg #[.bool r.op, .int .i64 r.fl, .int .i64 r.un, .int .i64 r.ou], .int .i64 p, .int .i64 d] u fun e u' => e = .returned (.bool mb) ∧ Below wr.heap.size wr u' := fun u hu => by
        rw [hmb, ← rmay_of, ← hr, sp]; exact (rmay_any r p d u).mono fun e u' ⟨he, hw⟩ => ⟨he, hu.trans (hw.mono hu.size)⟩
      have hgl := HI.out.box.lt
      have z0 : ∀ u, Below wr.heap.size wr u → u.cell? ⟨gs, 0, none⟩ = some (.bool r.op) := fun u hu => (hu.cell (p := ⟨gs, 0, none⟩) hgl).trans s0
      have z1 : ∀ u, Below wr.heap.size wr u → u.cell? ⟨gs, 1, none⟩ = some (.int .i64 r.fl) := fun u hu => (hu.cell (p := ⟨gs, 1, none⟩) hgl).trans s1
      have z2 : ∀ u, Below wr.heap.size wr u → u.cell? ⟨gs, 2, none⟩ = some (.int .i64 r.un) := fun u hu => (hu.cell (p := ⟨gs, 2, none⟩) hgl).trans s2
      have z3 : ∀ u, Below wr.heap.size wr u → u.cell? ⟨gs, 3, none⟩ = some (.int .i64 r.ou) := fun u hu => (hu.cell (p := ⟨gs, 3, none⟩) hgl).trans s3
      have HS := Lib.hid hS; have HM := Lib.hid hM; have HRK := Lib.hid hRK; have HRM := Lib.hid hRM
      have HKD := Lib.hid hkd; have HMB := Lib.hid hmb; have HR := Lib.hid hr
      have ek : (kd != kd) = false := by simp
      have em : (mb != mb) = false := by simp
      clear hS hM hRK hRM hkd hmb hr
      go_upto_region 15 with (fail)
      go_region_held3 (fun u => Below wr.heap.size wr u) (first | exact Below.refl _ _ | exact Below.drew (Below.refl _ _) | assumption)
        (first
          | (go_at_call 8; (with_reducible refine (HS.out _ ?_).mono ?_); (first | assumption | exact Below.drew (Below.refl _ _)); rintro e w' ⟨rfl, rfl⟩)
          | (go_at_call 9; (with_reducible refine (HRK.out _ ?_).mono ?_); (first | assumption | exact Below.drew (Below.refl _ _)); rintro e w' ⟨rfl, hw'⟩)
          | (go_at_call 10; (with_reducible refine (HM.out _ ?_).mono ?_); (first | assumption | exact Below.drew (Below.refl _ _)); rintro e w' ⟨rfl, hw'⟩)
          | (go_at_call 11; (with_reducible refine (HRM.out _ ?_).mono ?_); (first | assumption | exact Below.drew (Below.refl _ _)); rintro e w' ⟨rfl, hw'⟩))
      have hI2 : At w w' g gs s r := by rw [HR.out]; exact HI.out.on hw'
      have c0' : w'.cell? ⟨b, o + k * 2, none⟩ = some (.int .i64 x) := (hw'.cell (p := ⟨b, o + k * 2, none⟩) (Nat.lt_of_lt_of_le hbw HI.out.bel.size)).trans c0
      obtain ⟨q0, q1, q2, q3⟩ := hI2.s4
      have HA := Lib.hid hI2
      have HSelf : Hid (s.trip = t ∧ s.cool = c ∧ s.probes = p) := ⟨st, sc, sp⟩
      have HZ := Lib.hid fun r => sizeR r
      have HO := Lib.hid fun r => oneR r
      clear hI2 HI HS HM HRK HRM z0 z1 z2 z3 s0 s1 s2 s3 c0 c1' hgl hw' HT st sc sp
      generalize w' = V at *
      go_upto_block 2 with (fail)
      go_cut [13] (fun _ wc => ∃ s' : S, Hid (At w wc g gs s' (refOf s') ∧ s'.trip = t ∧ s'.cool = c ∧ s'.probes = p))
      case first =>
        have hbV : b < V.heap.size := Nat.lt_of_lt_of_le hbw HA.out.bel.size
        have hgV : gs < V.heap.size := HA.out.box.lt
        have hok : ROk r := by rw [HR.out]; exact rok_of HA.out.brk.ok
        by_cases k01 : x = 0 ∨ x = 1
        · obtain ⟨r2, hr2⟩ : ∃ r2, r2 = refOf (send s d) := ⟨_, rfl⟩
          have hrs : Calls Try.prog 12 #[.agg #[.bool r.op, .int .i64 r.fl, .int .i64 r.un, .int .i64 r.ou], .int .i64 p, .int .i64 d] V fun e w' => e = .returned (.tuple #[.agg #[.bool r2.op, .int .i64 r2.fl, .int .i64 r2.un, .int .i64 r2.ou], .bool mb]) ∧ Below V.heap.size V w' := by
            have h := rsend_any r p d V hok
            have e1 : rsend r p d = r2 := by rw [hr2, ← rsend_of, HR.out, HSelf.out.2.2]
            have e2 : rmay r p d = mb := by rw [HMB.out, ← rmay_of, HR.out, HSelf.out.2.2]
            rw [e1, e2] at h
            exact h
          have hsame : (send s d).trip = t ∧ (send s d).cool = c ∧ (send s d).probes = p := by
            obtain ⟨h1, h2, h3⟩ := same_send s d
            exact ⟨h1.trans HSelf.out.1, h2.trans HSelf.out.2.1, h3.trans HSelf.out.2.2⟩
          have HSame := Lib.hid hsame
          have HRS := Lib.hid hrs
          have HR2 := Lib.hid hr2
          clear hrs hr2 hsame hok
          by_cases k0 : x = 0
          · have e0 : (x == 0) = true := by simp [k0]
            clear k0 k01
            as_aux_lemma =>
              go_wp2_with (first
                | (go_at_call 12; (with_reducible refine HRS.out.mono ?_); rintro e w2 ⟨rfl, b2⟩
                   have hA3 := HA.out.on (b2.alloc b2.size (.cells #[.bool r2.op, .int .i64 r2.fl, .int .i64 r2.un, .int .i64 r2.ou] 27))
                   have HA3 := Lib.hid hA3
                   have hA4 := hA3.put r2
                   have hs4 := send_any hA4.brk d
                   rw [← HMB.out] at hs4
                   have HA4 := Lib.hid hA4
                   have HS4 := Lib.hid hs4
                   clear hA3 hA4 hs4)
                | (refine wpList_store_row rfl 27 (.tmp 10) (.tmp 94) rfl gs 27 r.cells r2.cells rfl rfl HA3.out.box (HZ.out _) rfl (HO.out _) ?_)
                | (go_at_call 13; (with_reducible refine HS4.out.mono ?_); rintro e w5 ⟨rfl, hq5⟩; have HA5 := Lib.hid (HA4.out.aft hq5); clear hq5))
              go_meet
              exact ⟨_, Lib.hid ⟨by rw [← HR2.out]; exact HA5.out, HSame.out⟩⟩
          · have e0 : (x == 0) = false := by simp [k0]
            have e1 : (x == 1) = true := by simp; omega
            clear k0 k01
            as_aux_lemma =>
              go_wp2_with (first
                | (go_at_call 12; (with_reducible refine HRS.out.mono ?_); rintro e w2 ⟨rfl, b2⟩
                   have hA3 := HA.out.on (b2.alloc b2.size (.cells #[.bool r2.op, .int .i64 r2.fl, .int .i64 r2.un, .int .i64 r2.ou] 27))
                   have HA3 := Lib.hid hA3
                   have hA4 := hA3.put r2
                   have hs4 := send_any hA4.brk d
                   rw [← HMB.out] at hs4
                   have HA4 := Lib.hid hA4
                   have HS4 := Lib.hid hs4
                   clear hA3 hA4 hs4)
                | (refine wpList_store_row rfl 27 (.tmp 10) (.tmp 94) rfl gs 27 r.cells r2.cells rfl rfl HA3.out.box (HZ.out _) rfl (HO.out _) ?_)
                | (go_at_call 13; (with_reducible refine HS4.out.mono ?_); rintro e w5 ⟨rfl, hq5⟩; have HA5 := Lib.hid (HA4.out.aft hq5); clear hq5))
              go_meet
              exact ⟨_, Lib.hid ⟨by rw [← HR2.out]; exact HA5.out, HSame.out⟩⟩
        have e0 : (x == 0) = false := by simp; omega
        have e1 : (x == 1) = false := by simp; omega
        by_cases k23 : x = 2 ∨ x = 3
        · have hsame : ∀ y, (done s d y).trip = t ∧ (done s d y).cool = c ∧ (done s d y).probes = p := fun y => by
            obtain ⟨h1, h2, h3⟩ := same_done s d y
            exact ⟨h1.trans HSelf.out.1, h2.trans HSelf.out.2.1, h3.trans HSelf.out.2.2⟩
          have HSame := Lib.hid hsame
          have hrd : ∀ y u, Calls Try.prog 15 #[.agg #[.bool r.op, .int .i64 r.fl, .int .i64 r.un, .int .i64 r.ou], .int .i64 t, .int .i64 c, .int .i64 d, .bool y] u fun e w' => e = .returned (.agg (refOf (done s d y)).cells) ∧ Below u.heap.size u w' := fun y u => by
            have h := rdone_any r t c d y u hok
            have e1 : rdone r t c d y = refOf (done s d y) := by rw [← rdone_of HA.out.brk.ok, HR.out, HSelf.out.1, HSelf.out.2.1]
            rw [e1] at h
            exact h
          have HRD := Lib.hid hrd
          have HD := Lib.hid fun y => done_any HA.out.brk d y
          clear hrd hsame hok
          by_cases k2 : x = 2
          · have e2 : (x == 2) = true := by simp [k2]
            clear k2 k23
            as_aux_lemma =>
              go_upto_region 27 with (go_at_call 14; (with_reducible refine (HD.out _).mono ?_); rintro e w2 ⟨rfl, hq2⟩; have HA2 := Lib.hid (HA.out.aft hq2); have c2' := (hq2.2.block b hbV (by intro e; injection e with e; have := HA.out.le; omega)); obtain ⟨z0, z1, z2, z3⟩ := HA2.out.s4; clear hq2)
              have d0 : w2.cell? ⟨b, o + k * 2, none⟩ = some (.int .i64 x) := (World.cell?_of_block c2').trans c0'
              refine wp_region_still_tail 10 (by kernel_rfl) (by kernel_rfl) ?_
              simp only [List.take_succ_cons, List.take_zero, List.drop_succ_cons, List.drop_zero]
              change wpStill _ _ w2.drew _ _ _
              iterate 10 still_step
              refine wpStill_nil ?_
              go_wp2_with (first
                | (go_at_call 15; (with_reducible refine (HRD.out _ _).mono ?_); rintro e w3 ⟨rfl, b3⟩; have HA3 := Lib.hid ((HA2.out.on (drewN_below w2 1)).on b3); clear b3)
                | (refine wpList_store_row rfl 27 (.tmp 10) (.tmp 122) rfl gs 27 r.cells (refOf (done s d true)).cells rfl rfl HA3.out.box (HZ.out _) rfl (HO.out _) ?_; have HA4 := Lib.hid (HA3.out.put (refOf (done s d true)))))
              go_meet
              exact ⟨_, Lib.hid ⟨HA4.out, HSame.out _⟩⟩
          · have e2 : (x == 2) = false := by simp [k2]
            have e3 : (x == 3) = true := by simp; omega
            clear k2 k23
            as_aux_lemma =>
              go_upto_region 27 with (go_at_call 14; (with_reducible refine (HD.out _).mono ?_); rintro e w2 ⟨rfl, hq2⟩; have HA2 := Lib.hid (HA.out.aft hq2); have c2' := (hq2.2.block b hbV (by intro e; injection e with e; have := HA.out.le; omega)); obtain ⟨z0, z1, z2, z3⟩ := HA2.out.s4; clear hq2)
              have d0 : w2.cell? ⟨b, o + k * 2, none⟩ = some (.int .i64 x) := (World.cell?_of_block c2').trans c0'
              refine wp_region_still_tail 10 (by kernel_rfl) (by kernel_rfl) ?_
              simp only [List.take_succ_cons, List.take_zero, List.drop_succ_cons, List.drop_zero]
              change wpStill _ _ w2.drew _ _ _
              iterate 10 still_step
              refine wpStill_nil ?_
              go_wp2_with (first
                | (go_at_call 15; (with_reducible refine (HRD.out _ _).mono ?_); rintro e w3 ⟨rfl, b3⟩; have HA3 := Lib.hid ((HA2.out.on (drewN_below w2 1)).on b3); clear b3)
                | (refine wpList_store_row rfl 27 (.tmp 10) (.tmp 122) rfl gs 27 r.cells (refOf (done s d false)).cells rfl rfl HA3.out.box (HZ.out _) rfl (HO.out _) ?_; have HA4 := Lib.hid (HA3.out.put (refOf (done s d false)))))
              go_meet
              exact ⟨_, Lib.hid ⟨HA4.out, HSame.out _⟩⟩
        have e2 : (x == 2) = false := by simp; omega
        have e3 : (x == 3) = false := by simp; omega
        by_cases k4 : x = 4
        · have e4 : (x == 4) = true := by simp [k4]
          have hsame : (lost s d).trip = t ∧ (lost s d).cool = c ∧ (lost s d).probes = p := by
            obtain ⟨h1, h2, h3⟩ := same_lost s d
            exact ⟨h1.trans HSelf.out.1, h2.trans HSelf.out.2.1, h3.trans HSelf.out.2.2⟩
          have HSame := Lib.hid hsame
          have hrl : ∀ u, Calls Try.prog 17 #[.agg #[.bool r.op, .int .i64 r.fl, .int .i64 r.un, .int .i64 r.ou], .int .i64 d] u fun e w' => e = .returned (.agg (refOf (lost s d)).cells) ∧ Below u.heap.size u w' := fun u => by
            have h := rlost_any r d u hok
            have e1 : rlost r d = refOf (lost s d) := by rw [← rlost_of, HR.out]
            rw [e1] at h
            exact h
          have HRL := Lib.hid hrl
          have HL := Lib.hid (lost_any HA.out.brk d)
          clear hrl hsame hok k4 k23 k01
          as_aux_lemma =>
            go_wp2_with (first
              | (go_at_call 16; (with_reducible refine HL.out.mono ?_); rintro e w2 ⟨rfl, hq2⟩; have HA2 := Lib.hid (HA.out.aft hq2); obtain ⟨z0, z1, z2, z3⟩ := HA2.out.s4; clear hq2)
              | (go_at_call 17; (with_reducible refine (HRL.out _).mono ?_); rintro e w3 ⟨rfl, b3⟩; have HA3 := Lib.hid (HA2.out.on b3); clear b3)
              | (refine wpList_store_row rfl 27 (.tmp 10) (.tmp 130) rfl gs 27 r.cells (refOf (lost s d)).cells rfl rfl HA3.out.box (HZ.out _) rfl (HO.out _) ?_; have HA4 := Lib.hid (HA3.out.put (refOf (lost s d)))))
            go_meet
            exact ⟨_, Lib.hid ⟨HA4.out, HSame.out⟩⟩
        have e4 : (x == 4) = false := by simp [k4]
        clear hok k4 k23 k01
        as_aux_lemma =>
          go_wp2_with (fail)
          go_meet
          exact ⟨_, Lib.hid ⟨by rw [← HR.out]; exact HA.out, HSelf.out⟩⟩
      case rest =>
        obtain ⟨s', HI'⟩ := hcut
        clear HA HSelf HKD HMB HR ek em q0 q1 q2 q3 c0'
        obtain ⟨hA, st, sc, sp⟩ := HI'.out
        obtain ⟨kd', hkd⟩ : ∃ kd', kd' = kind s' d := ⟨_, rfl⟩
        obtain ⟨r', hr⟩ : ∃ r', r' = refOf s' := ⟨_, rfl⟩
        obtain ⟨s0, s1, s2, s3⟩ := hA.s4
        rw [← hr] at s0 s1 s2 s3
        have hun : r'.un = s'.un := by rw [hr]; rfl
        have hou : r'.ou = s'.ou := by rw [hr]; rfl
        have hS : ∀ u, Below wc.heap.size wc u → Calls Try.prog 8 #[.pointer (some ⟨g, 0, none⟩), .int .i64 d] u fun e u' => e = .returned (.int .i64 kd') ∧ u = u' := fun u hu => by
          rw [hkd]; exact state_any (hA.on hu).brk d
        have hRK : ∀ u, Below wc.heap.size wc u → Calls Try.prog 9 #[.agg #[.bool r'.op, .int .i64 r'.fl, .int .i64 r'.un, .int .i64 r'.ou], .int .i64 d] u fun e u' => e = .returned (.int .i64 kd') ∧ Below wc.heap.size wc u' := fun u hu => by
          rw [hkd, ← rkind_of, ← hr]; exact (rkind_any r' d u).mono fun e u' ⟨he, hw⟩ => ⟨he, hu.trans (hw.mono hu.size)⟩
        have hU : ∀ u, Below wc.heap.size wc u → Calls Try.prog 18 #[.pointer (some ⟨g, 0, none⟩)] u fun e u' => e = .returned (.int .i64 r'.un) ∧ u = u' := fun u hu => by
          rw [hun]; exact until_any (hA.on hu).brk
        have hO : ∀ u, Below wc.heap.size wc u → Calls Try.prog 19 #[.pointer (some ⟨g, 0, none⟩)] u fun e u' => e = .returned (.int .i64 r'.ou) ∧ u = u' := fun u hu => by
          rw [hou]; exact out_any (hA.on hu).brk
        have hgl := hA.box.lt
        have z0 : ∀ u, Below wc.heap.size wc u → u.cell? ⟨gs, 0, none⟩ = some (.bool r'.op) := fun u hu => (hu.cell (p := ⟨gs, 0, none⟩) hgl).trans s0
        have z1 : ∀ u, Below wc.heap.size wc u → u.cell? ⟨gs, 1, none⟩ = some (.int .i64 r'.fl) := fun u hu => (hu.cell (p := ⟨gs, 1, none⟩) hgl).trans s1
        have z2 : ∀ u, Below wc.heap.size wc u → u.cell? ⟨gs, 2, none⟩ = some (.int .i64 r'.un) := fun u hu => (hu.cell (p := ⟨gs, 2, none⟩) hgl).trans s2
        have z3 : ∀ u, Below wc.heap.size wc u → u.cell? ⟨gs, 3, none⟩ = some (.int .i64 r'.ou) := fun u hu => (hu.cell (p := ⟨gs, 3, none⟩) hgl).trans s3
        have HS := Lib.hid hS; have HRK := Lib.hid hRK; have HU := Lib.hid hU; have HO' := Lib.hid hO
        have ek : (kd' != kd') = false := by simp
        have eu : (r'.un != r'.un) = false := by simp
        have eo : (r'.ou != r'.ou) = false := by simp
        clear hS hRK hU hO hkd hr hun hou hA st sc sp
        go_wp2_with (fail)
        go_region_held3 (fun u => Below wc.heap.size wc u) (first | exact Below.refl _ _ | exact Below.drew (Below.refl _ _) | assumption)
          (first
            | (go_at_call 8; (with_reducible refine (HS.out _ ?_).mono ?_); (first | assumption | exact Below.drew (Below.refl _ _)); rintro e w' ⟨rfl, rfl⟩)
            | (go_at_call 9; (with_reducible refine (HRK.out _ ?_).mono ?_); (first | assumption | exact Below.drew (Below.refl _ _)); rintro e w' ⟨rfl, hw'⟩)
            | (go_at_call 18; (with_reducible refine (HU.out _ ?_).mono ?_); (first | assumption | exact Below.drew (Below.refl _ _)); rintro e w' ⟨rfl, rfl⟩)
            | (go_at_call 19; (with_reducible refine (HO'.out _ ?_).mono ?_); (first | assumption | exact Below.drew (Below.refl _ _)); rintro e w' ⟨rfl, rfl⟩))
        go_wp2_with (fail)
        go_roundw
        case rel => exact ⟨k + 1, s', by go_num, by omega, HI'.out.2.1, HI'.out.2.2.1, HI'.out.2.2.2, Lib.hid (HI'.out.1.on (by assumption))⟩
        case measure => simp [intOf]; omega
    · obtain rfl : n = k := by omega
      go_wp2
      go_ret
      exact ⟨rfl, HI.out.bel⟩
end Go.Proofs.Ytndpdciehnndoaa.Bk
