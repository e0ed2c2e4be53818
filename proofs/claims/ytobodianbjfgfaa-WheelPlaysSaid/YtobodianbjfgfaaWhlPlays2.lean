/-
  The law function WheelPlays of at most 40 acts on a wheel: it returns true.
  Conditions: the tick and the capacity are a wheel's.
-/
import Derived.Test.YtobodianbjfgfaaWhlPlays1
import Derived.WalkKit
import Derived.Deep.DeepCutAuto
import Derived.Deep.CutBlock
import Derived.Deep.RegionHeld3
namespace Go.Proofs.Ytobodianbjfgfaa.Wh
open Go.ChangeShapes Go.WideShapes Go.ChangeAt Go.RowKit

/-- the tick that an act names -/
def actTk (now : Nat) (kind at_ : Int) : Int := if kind ≤ 2 ∨ kind = 5 ∨ kind = 6 then addT (now : Int) at_ else at_
theorem tims_new {w : World} (h : Nat) (id : Int) (d : Nat) (z : Int) (hz : (h : Int) = z) (t : TypeId) : Tims (w.alloc (.cells #[.int .i64 z, .int .i64 id, .int .i64 (d : Int)] t)) (w.heap.size + 1) (some ⟨w.heap.size, 0, none⟩) [⟨h, id, d⟩] := fun _ => ⟨_, 0, rfl, Nat.lt_succ_self _, fun j v hv => by
  have h1 := cell_three_to (w := w) rfl (.int .i64 z) (.int .i64 id) (.int .i64 (d : Int)) t j v (by subst hz; simpa [cellsT, T.cells] using hv)
  rwa [Addr.add_lit] at h1⟩
set_option maxHeartbeats 16000000 in
set_option maxRecDepth 100000 in
theorem walk_main (now cap : Int) (A0 : Option Addr) (n ca : Nat) (f : Nat → Nat → Int) (w : World) (h40 : ¬ 40 < n) (hcr : ¬ (now < 0 ∨ 1099511627776 < now ∨ cap < 1 ∨ 65536 < cap)) (hf : ∀ i, i < n → IntsAt w w.heap.size A0 3 i (f i)) :
    Calls Try.prog 3 #[.int .i64 now, .int .i64 cap, .slice A0 n ca] w fun e w' => e = .returned (.bool true) ∧ Below w.heap.size w w' := by
  have HF := Lib.hid hf
  clear hf
  obtain ⟨t0, rfl⟩ : ∃ t0 : Nat, now = (t0 : Int) := ⟨now.toNat, by omega⟩
  obtain ⟨cp, rfl⟩ : ∃ cp : Nat, cap = (cp : Int) := ⟨cap.toNat, by omega⟩
  have ht0 : t0 ≤ 1099511627776 := by omega
  have hc1 : 1 ≤ cp := by omega
  have hc2 : cp ≤ 65536 := by omega
  have d1 : decide ((cp : Int) < 1) = false := by simp; omega
  have d2 : decide ((65536 : Int) < (cp : Int)) = false := by simp; omega
  have d3 : decide ((t0 : Int) < 0) = false := by simp
  have d4 : decide ((1099511627776 : Int) < (t0 : Int)) = false := by simp; omega
  have hN : ∀ w, Calls Try.prog 7 #[.int .i64 (t0 : Int), .int .i64 (cp : Int)] w fun e w' => e = .returned (.pointer (some ⟨w.heap.size + 1, 0, none⟩)) ∧ Whl w' (w.heap.size + 1) (fun i => i < w.heap.size) ⟨cp, t0, 0, []⟩ ∧ Below w.heap.size w w' := fun w => new_any t0 cp w ht0 hc1 hc2
  have HN := Lib.hid hN
  clear hN hcr
  go_enter Try.func3, Try.ntmps3
  go_wp2_with (first
    | (go_at_call 6; (with_reducible refine (awake_any _).mono ?_); rintro e w0 ⟨rfl, hb0⟩)
    | (go_at_call 7; (with_reducible refine (HN.out _).mono ?_); rintro e w1 ⟨rfl, hq1, hb1⟩; have Hq1 := Lib.hid hq1; clear hq1))
  have hs0 := hb0.size
  have hs1 := hb1.size
  have hbw : Below w.heap.size w w1 := hb0.trans (hb1.mono hb0.size)
  obtain ⟨g, hg⟩ : ∃ g, g = w0.heap.size + 1 := ⟨_, rfl⟩
  rw [← hg] at Hq1 ⊢
  have hAt : PlAt w w1 g ⟨cp, t0, 0, []⟩ none 0 := ⟨⟨_, Hq1.out, fun i hi => by omega, fun i hi => by simp [Value.ownBlock] at hi⟩, World.ownsRow_nil _ _ _ _, hbw⟩
  have HAt := Lib.hid hAt
  clear hAt hbw hg hb0 hb1 Hq1 hs0 hs1 d1 d2 d3 d4
  go_loopw [0, 8, 9, 10] (fun vt vx vl vi wr => ∃ (k : Nat) (s : Ws) (A : Option Addr) (c : Nat), vt = .int .i64 (s.now : Int) ∧ vx = .slice A s.xs.length c ∧ vl = .int .i64 (s.last : Int) ∧ vi = .int .i64 (k : Int) ∧ k ≤ n ∧ s.last ≤ k ∧ s.xs.length ≤ k ∧ Hid (PlAt w wr g s A c ∧ s.cap = cp)) (fun _ _ _ vi _ => n - (intOf vi).toNat)
  case atStart => exact ⟨0, ⟨cp, t0, 0, []⟩, none, 0, rfl, rfl, rfl, rfl, by omega, by simp, by simp, Lib.hid ⟨HAt.out, rfl⟩⟩
  case round =>
    clear HAt
    obtain ⟨k, s, A, c, rfl, rfl, rfl, rfl, hk, hlk, hxk, HI⟩ := hrel
    by_cases hkn : k < n
    · have hat := HF.out k hkn
      obtain ⟨b, o, rfl⟩ : ∃ b o, A0 = some ⟨b, o, none⟩ := by obtain ⟨b, o, e, _⟩ := hat; exact ⟨b, o, e⟩
      have c0 := (hat.below HI.out.1.bel).get 0 (by omega)
      have c1 := (hat.below HI.out.1.bel).get 1 (by omega)
      have c2 := (hat.below HI.out.1.bel).get 2 (by omega)
      rw [Nat.add_zero] at c0
      obtain ⟨x1, y1⟩ := hat.fit 1 (by omega)
      obtain ⟨x2, y2⟩ := hat.fit 2 (by omega)
      generalize f k 0 = kind at c0
      generalize f k 1 = id at c1 x1 y1
      generalize f k 2 = tk0 at c2 x2 y2
      clear hat
      go_upto_region 17 with (fail)
      obtain ⟨hPl, hcp⟩ := HI.out
      obtain ⟨X, hIn⟩ := hPl.box (.cells #[.int .i64 kind, .int .i64 id, .int .i64 tk0] 28)
      have a0 : (wr.alloc (.cells #[.int .i64 kind, .int .i64 id, .int .i64 tk0] 28)).cell? ⟨wr.heap.size, 0, none⟩ = some (.int .i64 kind) := by simp
      have a1 : (wr.alloc (.cells #[.int .i64 kind, .int .i64 id, .int .i64 tk0] 28)).cell? ⟨wr.heap.size, 1, none⟩ = some (.int .i64 id) := by simp
      have a2 : (wr.alloc (.cells #[.int .i64 kind, .int .i64 id, .int .i64 tk0] 28)).cell? ⟨wr.heap.size, 2, none⟩ = some (.int .i64 tk0) := by simp
      have hal : wr.heap.size < (wr.alloc (.cells #[.int .i64 kind, .int .i64 id, .int .i64 tk0] 28)).heap.size := by simp
      have hna : ∀ i, (Value.slice A s.xs.length c).ownBlock = some i → i ≠ wr.heap.size := fun i hi => Nat.ne_of_lt (own_lt hPl.row hi)
      have HIn := Lib.hid hIn
      generalize (wr.alloc (.cells #[.int .i64 kind, .int .i64 id, .int .i64 tk0] 28)) = W at HIn a0 a1 a2 hal ⊢
      generalize wr.heap.size = aB at HIn a0 a1 a2 hal hna ⊢
      have HNA := Lib.hid hna
      have HC := Lib.hid hcp
      clear hIn hPl hcp HI c0 c1 c2 hna
      obtain ⟨pb, hpb⟩ : ∃ pb, pb = decide (kind ≤ 2 ∨ kind = 5 ∨ kind = 6) := ⟨_, rfl⟩
      have HPB := Lib.hid hpb
      clear hpb
      go_cut [74] (fun v wx => v = .bool pb ∧ wx = W)
      case first =>
        by_cases k0 : kind ≤ 2
        · have hp : pb = true := by rw [HPB.out]; exact decide_eq_true (.inl k0)
          subst hp
          as_aux_lemma =>
            go_wp2_with fail
            go_meet
            exact ⟨rfl, rfl⟩
        · by_cases k5 : kind = 5
          · have e5 : (kind == 5) = true := by simp [k5]
            have hp : pb = true := by rw [HPB.out]; exact decide_eq_true (.inr (.inl k5))
            subst hp
            clear k5
            as_aux_lemma =>
              go_wp2_with fail
              go_meet
              exact ⟨rfl, rfl⟩
          · have e5 : (kind == 5) = false := by simp [k5]
            by_cases k6 : kind = 6
            · have e6 : (kind == 6) = true := by simp [k6]
              have hp : pb = true := by rw [HPB.out]; exact decide_eq_true (.inr (.inr k6))
              subst hp
              clear k5 k6
              as_aux_lemma =>
                go_wp2_with fail
                go_meet
                exact ⟨rfl, rfl⟩
            · have e6 : (kind == 6) = false := by simp [k6]
              have hp : pb = false := by rw [HPB.out]; exact decide_eq_false (by omega)
              subst hp
              clear k5 k6
              as_aux_lemma =>
                go_wp2_with fail
                go_meet
                exact ⟨rfl, rfl⟩
      case rest =>
        obtain ⟨rfl, rfl⟩ := hcut
        go_upto_if 74 with (fail)
        go_cut [12] (fun v wx => v = .int .i64 (actTk s.now kind tk0) ∧ wx = wc)
        case first =>
          cases pb with
          | true =>
            have ht : actTk s.now kind tk0 = addT (s.now : Int) tk0 := if_pos (of_decide_eq_true HPB.out.symm)
            have HT := Lib.hid ht
            clear ht
            as_aux_lemma =>
              go_wp2_with (go_at_call 8; (with_reducible refine (radd_any _ _ _).mono ?_); rintro e w2 ⟨rfl, rfl⟩)
              go_meet
              exact ⟨by rw [HT.out], rfl⟩
          | false =>
            have ht : actTk s.now kind tk0 = tk0 := if_neg (of_decide_eq_false HPB.out.symm)
            have HT := Lib.hid ht
            clear ht
            as_aux_lemma =>
              go_wp2_with fail
              go_meet
              exact ⟨by rw [HT.out], rfl⟩
        case rest =>
          obtain ⟨rfl, rfl⟩ := hcut
          generalize hat : actTk s.now kind tk0 = tk
          have htb : -9223372036854775808 ≤ tk ∧ tk ≤ 9223372036854775807 := by
            rw [← hat]
            unfold actTk
            split
            · have h1 := addT_lo (s.now : Int) tk0
              have h2 := addT_hi (s.now : Int) tk0
              omega
            · exact ⟨x2, y2⟩
          clear hat x2 y2
          go_upto_block 2 with (fail)
          go_cut [0, 8, 9] (fun vt vx vl wd => ∃ (s' : Ws) (A' : Option Addr) (c' : Nat), vt = .int .i64 (s'.now : Int) ∧ vx = .slice A' s'.xs.length c' ∧ vl = .int .i64 (s'.last : Int) ∧ s'.last ≤ k + 1 ∧ s'.xs.length ≤ k + 1 ∧ Hid (PlAt w wd g s' A' c' ∧ s'.cap = cp))
          case first =>
            have hsm : s.xs.length ≤ 300 := by omega
            have hll : s.last < 4611686018427387904 := by omega
            have hnow : s.now ≤ 1099511627776 := HIn.out.whl.ok.now
            obtain ⟨pb2, hpb2⟩ : ∃ pb2, pb2 = decide (kind = 0 ∨ kind = 1 ∨ kind = 2 ∨ kind = 3) := ⟨_, rfl⟩
            have HPB2 := Lib.hid hpb2
            clear hpb2 HPB
            go_upto_if 81 with (fail)
            go_cut [81] (fun v wx => v = .bool pb2 ∧ wx = wc)
            case first =>
              by_cases k0 : kind = 0
              · have e0 : (kind == 0) = true := by simp [k0]
                have hp : pb2 = true := by rw [HPB2.out]; exact decide_eq_true (.inl k0)
                subst hp
                clear k0
                as_aux_lemma =>
                  go_wp2_with fail
                  go_meet
                  exact ⟨by rw [e0], rfl⟩
              · have e0 : (kind == 0) = false := by simp [k0]
                by_cases k1 : kind = 1
                · have e1 : (kind == 1) = true := by simp [k1]
                  have hp : pb2 = true := by rw [HPB2.out]; exact decide_eq_true (.inr (.inl k1))
                  subst hp
                  clear k0 k1
                  as_aux_lemma =>
                    go_wp2_with fail
                    go_meet
                    exact ⟨rfl, rfl⟩
                · have e1 : (kind == 1) = false := by simp [k1]
                  by_cases k2 : kind = 2
                  · have e2 : (kind == 2) = true := by simp [k2]
                    have hp : pb2 = true := by rw [HPB2.out]; exact decide_eq_true (.inr (.inr (.inl k2)))
                    subst hp
                    clear k0 k1 k2
                    as_aux_lemma =>
                      go_wp2_with fail
                      go_meet
                      exact ⟨rfl, rfl⟩
                  · have e2 : (kind == 2) = false := by simp [k2]
                    by_cases k3 : kind = 3
                    · have e3 : (kind == 3) = true := by simp [k3]
                      have hp : pb2 = true := by rw [HPB2.out]; exact decide_eq_true (.inr (.inr (.inr k3)))
                      subst hp
                      clear k0 k1 k2 k3
                      as_aux_lemma =>
                        go_wp2_with fail
                        go_meet
                        exact ⟨rfl, rfl⟩
                    · have e3 : (kind == 3) = false := by simp [k3]
                      have hp : pb2 = false := by rw [HPB2.out]; exact decide_eq_false (by omega)
                      subst hp
                      clear k0 k1 k2 k3
                      as_aux_lemma =>
                        go_wp2_with fail
                        go_meet
                        exact ⟨rfl, rfl⟩
            case rest =>
              obtain ⟨rfl, rfl⟩ := hcut
              cases pb2 with
              | true =>
                clear HPB2 a0 a2
                by_cases t1 : tk < 0
                · have HP := Lib.hid (set_arg g id tk wc (decide_eq_false (by omega)))
                  unfold ptr at HP
                  as_aux_lemma =>
                    go_wp2_with (go_at_call 9; (with_reducible refine HP.out.mono ?_); rintro e w2 ⟨rfl, rfl⟩)
                    go_meet
                    exact ⟨s, A, c, rfl, rfl, rfl, by omega, by omega, Lib.hid ⟨HIn.out.same (Below.refl _ _), HC.out⟩⟩
                · by_cases t2 : 1099511627776 < tk
                  · have HP := Lib.hid (set_arg g id tk wc (decide_eq_false (by omega)))
                    unfold ptr at HP
                    as_aux_lemma =>
                      go_wp2_with (go_at_call 9; (with_reducible refine HP.out.mono ?_); rintro e w2 ⟨rfl, rfl⟩)
                      go_meet
                      exact ⟨s, A, c, rfl, rfl, rfl, by omega, by omega, Lib.hid ⟨HIn.out.same (Below.refl _ _), HC.out⟩⟩
                  · obtain ⟨a, rfl⟩ : ∃ a : Nat, tk = (a : Int) := ⟨tk.toNat, by omega⟩
                    have ha : a ≤ 1099511627776 := by omega
                    have q1 : decide ((a : Int) < 0) = false := by simp
                    have q2 : decide ((1099511627776 : Int) < (a : Int)) = false := by simp; omega
                    clear t1 t2 htb
                    by_cases hfu : s.cap ≤ s.xs.length
                    · have HP := Lib.hid (set_full HIn.out.whl (id := id) (at_ := (a : Int)) (decide_eq_true (by omega)) hfu)
                      unfold ptr at HP
                      have hdc : decide (cp ≤ s.xs.length) = true := decide_eq_true (by rw [← HC.out]; exact hfu)
                      clear hfu
                      as_aux_lemma =>
                        go_wp2_with (go_at_call 9; (with_reducible refine HP.out.mono ?_); rintro e w2 ⟨rfl, nn, rfl⟩)
                        go_meet
                        exact ⟨s, A, c, rfl, rfl, rfl, by omega, by omega, Lib.hid ⟨HIn.out.same (drewN_below _ _), HC.out⟩⟩
                    · have HP := Lib.hid (set_ok HIn.out.whl (id := id) ha (by omega) hll)
                      unfold ptr at HP
                      have hdc : decide (cp ≤ s.xs.length) = false := decide_eq_false (by rw [← HC.out]; exact hfu)
                      obtain ⟨i0, hi0, hz0, hz1, hz2⟩ := info_parts infoA
                      have H1 : ∀ W, Calls Try.prog 8 #[.int .i64 (s.now : Int), .int .i64 1] W fun e w' => e = .returned (.int .i64 ((min (s.now + 1) 1099511627776 : Nat) : Int)) ∧ w' = W := fun W => (radd_any (s.now : Int) 1 W).mono fun e w' ⟨h3, h4⟩ => ⟨by rw [h3, add_one hnow], h4.symm⟩
                      have hdue : max (a : Int) ((min (s.now + 1) 1099511627776 : Nat) : Int) = ((dueAt s.now a : Nat) : Int) := by unfold dueAt; omega
                      obtain ⟨dd, hdd⟩ : ∃ dd, dd = dueAt s.now a := ⟨_, rfl⟩
                      rw [← hdd] at hdue
                      have HDD := Lib.hid hdd
                      generalize min (s.now + 1) 1099511627776 = n1 at H1 hdue
                      have H1' := Lib.hid H1
                      clear hfu H1 hdd
                      as_aux_lemma =>
                        go_wp2_with (go_at_call 9; (with_reducible refine HP.out.mono ?_); rintro e w2 ⟨rfl, hq2, hk2⟩; have hk2' : Keep X wc w2.drew := ⟨hk2.os, hk2.tape, hk2.output, hk2.size, hk2.block⟩; have a1' := (HIn.out.keptCell hk2 hal 1).trans a1; have hbs2 := (HIn.out.keptBel hk2).size; have HRow2 := Lib.hid (HIn.out.keptRow hk2'); have HQ2 := Lib.hid (hq2.below (w' := w2.drew) ⟨rfl, rfl, rfl, Nat.le_refl _, fun _ _ => rfl⟩); have HK2 := Lib.hid hk2'; clear hq2 hk2 hk2')
                        have a1d : w2.drew.cell? ⟨aB, 1, none⟩ = some (.int .i64 id) := a1'
                        have haB2 : aB < w2.heap.size := Nat.lt_of_lt_of_le hal HK2.out.size
                        have haB : aB < w2.drew.heap.size := haB2
                        have a1al : ∀ o, (w2.drew.alloc o).cell? ⟨aB, 1, none⟩ = some (.int .i64 id) := fun o => (((Below.refl _ w2.drew).alloc (Nat.le_refl _) o).cell (p := ⟨aB, 1, none⟩) haB).trans a1d
                        have A1AL := Lib.hid a1al
                        clear a1al
                        go_region_held3 (fun u => u.cell? ⟨aB, 1, none⟩ = some (.int .i64 id)) (first | exact a1d | assumption | exact A1AL.out _)
                          (first
                            | (go_at_call 8; (with_reducible refine (H1'.out _).mono ?_); rintro e wq ⟨rfl, rfl⟩)
                            | (refine step_append_tims _ rfl (.tmp 118) (.tmp 127) 26 rfl w.heap.size 34 i0 _ Try.underlying26 hi0 hz0 hz1 hz2 rfl (.slice A s.xs.length c) s.xs.length (cellsT s.xs) rfl (HRow2.out.alloc _) (w2.heap.size + 1) (some ⟨w2.heap.size, 0, none⟩) 1 1 [⟨s.last + 1, id, dd⟩] rfl rfl (tims_new (w := w2.drew) (s.last + 1) id dd _ (by omega) _) (by simp; omega) (by simp; omega) ?_; intro v3 w3 hown3 hg3 hat3; have a1e : w3.cell? ⟨aB, 1, none⟩ = some (.int .i64 id) := (World.cell?_of_block (hg3.block aB (by simp; omega) (fun e => HNA.out aB e.symm rfl))).trans (A1AL.out _)))
                        all_goals
                          have HG3 := Lib.hid hg3
                          have HO3 := Lib.hid hown3
                          have HT3 := Lib.hid hat3
                          clear hown3 hg3 hat3 hdue
                          go_wp2
                          go_meet
                          have ho : w3.ownsRow w.heap.size 34 3 v3 (s.set id a).xs.length (cellsT (s.set id a).xs) := by
                            have h1 := HO3.out
                            rw [HDD.out, ← cellsT_app] at h1
                            rw [set_len]
                            exact h1
                          obtain ⟨A3, c3, e3, hR3⟩ := HIn.out.put HQ2.out HK2.out HG3.out ho HT3.out
                          exact ⟨s.set id a, A3, c3, rfl, e3, by simp [Ws.set], by simp [Ws.set]; omega, by rw [set_len]; omega, Lib.hid ⟨hR3, HC.out⟩⟩
              | false =>
                have hE := Tims.own HIn.out.row
                have hrise := HIn.out.whl.ok.rise
                have hcap : s.xs.length ≤ c := by
                  obtain ⟨A1, c1, e, h1⟩ := own_form3 HIn.out.row
                  simp only [Value.slice.injEq] at e
                  omega
                clear HPB2 a0 a2
                by_cases k4 : kind = 4
                · have e4 : (kind == 4) = true := by simp [k4]
                  clear k4 htb
                  by_cases hx : ∃ y ∈ s.xs, (y.h : Int) = id
                  · obtain ⟨y, hy, rfl⟩ := hx
                    obtain ⟨j, hjl, hej⟩ := List.mem_iff_getElem.1 hy
                    rw [← tth_get hjl] at hej
                    subst hej
                    obtain ⟨b2, o2, rfl, _⟩ := hE.at0 (by omega)
                    have cd := hE.du rfl hjl
                    have HFd := Lib.hid (rfind_yes _ s.xs c j wc hE hsm hjl hrise)
                    have HDu := Lib.hid (due_yes HIn.out.whl hy (by omega))
                    have HCa := Lib.hid (cancel_yes HIn.out.whl hy (by omega))
                    have hj0 : decide ((0 : Int) ≤ (j : Int)) = true := decide_eq_true (by omega)
                    unfold ptr at HDu HCa
                    have HRise := Lib.hid hrise
                    clear hE hrise hy
                    as_aux_lemma =>
                      go_wp2_with (first
                        | (go_at_call 10; (with_reducible refine HFd.out.mono ?_); rintro e w2 ⟨rfl, rfl⟩)
                        | (go_at_call 11; (with_reducible refine HDu.out.mono ?_); rintro e w3 ⟨rfl, rfl⟩)
                        | (go_at_call 12; (with_reducible refine HCa.out.mono ?_); rintro e w4 ⟨rfl, hq4, hk4⟩; have HR4 := Lib.hid (HIn.out.keptRow hk4); have HQ4 := Lib.hid hq4; have HK4 := Lib.hid hk4; clear hq4 hk4)
                        | (go_at_call 13; refine (rwithout_any _ s.xs c j w4 (Tims.own HR4.out) hsm hcap hjl).mono ?_; rintro e w5 ⟨v5, rfl, hown5, hb5⟩; have HO5 := Lib.hid hown5; have HB5 := Lib.hid hb5; clear hown5 hb5))
                      go_meet
                      obtain ⟨A5, c5, e5, hR5⟩ := HIn.out.anew HQ4.out HK4.out HB5.out HO5.out (drop_tth HRise.out hjl)
                      exact ⟨s.drop (tth s.xs j).h, A5, c5, rfl, e5, rfl, Nat.le_trans hlk (Nat.le_succ _), Nat.le_trans (List.length_filter_le _ _) (by omega), Lib.hid ⟨hR5, HC.out⟩⟩
                  · have hno : NoH s id := fun y hy e => hx ⟨y, hy, e⟩
                    have HFd := Lib.hid (rfind_no A s.xs c id wc hE hsm hno)
                    have HDu := Lib.hid (due_no HIn.out.whl hno x1 y1)
                    have HCa := Lib.hid (cancel_no HIn.out.whl hno x1 y1)
                    unfold ptr at HDu HCa
                    clear hx hno hE hrise
                    as_aux_lemma =>
                      go_wp2_with (first
                        | (go_at_call 10; (with_reducible refine HFd.out.mono ?_); rintro e w2 ⟨rfl, rfl⟩)
                        | (go_at_call 11; (with_reducible refine HDu.out.mono ?_); rintro e w3 ⟨rfl, rfl⟩)
                        | (go_at_call 12; (with_reducible refine HCa.out.mono ?_); rintro e w4 ⟨rfl, rfl⟩))
                      go_meet
                      exact ⟨s, A, c, rfl, rfl, rfl, by omega, by omega, Lib.hid ⟨HIn.out.same (Below.refl _ _), HC.out⟩⟩
                · have e4 : (kind == 4) = false := by simp [k4]
                  clear hE
                  obtain ⟨pb3, hpb3⟩ : ∃ pb3, pb3 = decide (kind = 5 ∨ kind = 6 ∨ kind = 7) := ⟨_, rfl⟩
                  have HPB3 := Lib.hid hpb3
                  clear hpb3 k4
                  go_upto_if 177 with (fail)
                  go_cut [177] (fun v wx => v = .bool pb3 ∧ wx = wc)
                  case first =>
                    by_cases k5 : kind = 5
                    · have e5 : (kind == 5) = true := by simp [k5]
                      have hp : pb3 = true := by rw [HPB3.out]; exact decide_eq_true (.inl k5)
                      subst hp
                      clear k5
                      as_aux_lemma =>
                        go_wp2_with fail
                        go_meet
                        exact ⟨by rw [e5], rfl⟩
                    · have e5 : (kind == 5) = false := by simp [k5]
                      by_cases k6 : kind = 6
                      · have e6 : (kind == 6) = true := by simp [k6]
                        have hp : pb3 = true := by rw [HPB3.out]; exact decide_eq_true (.inr (.inl k6))
                        subst hp
                        clear k5 k6
                        as_aux_lemma =>
                          go_wp2_with fail
                          go_meet
                          exact ⟨rfl, rfl⟩
                      · have e6 : (kind == 6) = false := by simp [k6]
                        by_cases k7 : kind = 7
                        · have e7 : (kind == 7) = true := by simp [k7]
                          have hp : pb3 = true := by rw [HPB3.out]; exact decide_eq_true (.inr (.inr k7))
                          subst hp
                          clear k5 k6 k7
                          as_aux_lemma =>
                            go_wp2_with fail
                            go_meet
                            exact ⟨rfl, rfl⟩
                        · have e7 : (kind == 7) = false := by simp [k7]
                          have hp : pb3 = false := by rw [HPB3.out]; exact decide_eq_false (by omega)
                          subst hp
                          clear k5 k6 k7
                          as_aux_lemma =>
                            go_wp2_with fail
                            go_meet
                            exact ⟨rfl, rfl⟩
                  case rest =>
                    obtain ⟨rfl, rfl⟩ := hcut
                    clear e4 a1 hcap
                    cases pb3 with
                    | true =>
                      clear HPB3
                      by_cases t1 : tk ≤ (s.now : Int)
                      · have HGo := Lib.hid (go_no HIn.out.whl (.inl t1))
                        unfold ptr at HGo
                        have t1' : decide (tk ≤ (s.now : Int)) = true := decide_eq_true t1
                        clear hrise
                        as_aux_lemma =>
                          go_wp2_with (go_at_call 14; (with_reducible refine HGo.out.mono ?_); rintro e w2 ⟨rfl, rfl⟩)
                          go_meet
                          exact ⟨s, A, c, rfl, rfl, rfl, by omega, by omega, Lib.hid ⟨HIn.out.same (Below.refl _ _), HC.out⟩⟩
                      · have t1' : decide (tk ≤ (s.now : Int)) = false := decide_eq_false t1
                        by_cases t2 : 1099511627776 < tk
                        · have HGo := Lib.hid (go_no HIn.out.whl (.inr t2))
                          unfold ptr at HGo
                          clear hrise
                          as_aux_lemma =>
                            go_wp2_with (go_at_call 14; (with_reducible refine HGo.out.mono ?_); rintro e w2 ⟨rfl, rfl⟩)
                            go_meet
                            exact ⟨s, A, c, rfl, rfl, rfl, by omega, by omega, Lib.hid ⟨HIn.out.same (Below.refl _ _), HC.out⟩⟩
                        · obtain ⟨tt, rfl⟩ : ∃ tt : Nat, tk = (tt : Int) := ⟨tk.toNat, by omega⟩
                          have g1 : s.now < tt := by omega
                          have g2 : tt ≤ 1099511627776 := by omega
                          have q1 : decide (tt ≤ s.now) = false := decide_eq_false (by omega)
                          have q2 : decide ((1099511627776 : Int) < (tt : Int)) = false := by simp; omega
                          have HGo := Lib.hid (go_any HIn.out.whl hll g1 g2)
                          have hRG : ∀ w2, Keep X wc w2 → Calls Try.prog 15 #[.slice A s.xs.length c, .int .i64 (tt : Int)] w2 (RGoEnd w2 A s.xs tt) := fun w2 hk => rgo_any A s.xs c tt w2 (own_to0 (HIn.out.keptRow hk)) hrise hsm
                          have HRG := Lib.hid hRG
                          unfold ptr at HGo
                          clear t1 t2 t1' hRG hrise htb
                          as_aux_lemma =>
                            go_wp2_with (first
                              | (go_at_call 14; (with_reducible refine HGo.out.mono ?_); rintro e w2 ⟨gv, l, rfl, hgn2, hown2, hq2, hk2⟩; have HGN2 := Lib.hid hgn2; have HO2 := Lib.hid hown2; have HQ2 := Lib.hid hq2; have HK2 := Lib.hid hk2; clear hgn2 hown2 hq2 hk2)
                              | (go_at_call 15; (with_reducible refine (HRG.out _ HK2.out).mono ?_); rintro e w3 ⟨v1, A3, c3, ts, rfl, hgn3, hown3, hst3, hb3, hpl3⟩; obtain rfl := gone_uniq HGN2.out hgn3; have HO3 := Lib.hid hown3; have HS3 := Lib.hid hst3; have HB3 := Lib.hid hb3; have HPL3 := Lib.hid hpl3; have HO2' := Lib.hid (own_stay HO2.out fun b hb => hb3.block b (own_lt HO2.out hb)); have hlen := Nat.le_trans (Nat.le_of_eq hgn3.1.length_eq) (List.length_filter_le _ _); clear hgn3 hown3 hst3 hb3 hpl3)
                              | (go_at_call 16; (with_reducible refine (same_any HO2'.out HO3.out (by omega)).mono ?_); rintro e w4 ⟨rfl, nn, rfl⟩))
                            go_meet
                            have hR := HIn.out.went (s' := s.go tt) HQ2.out HK2.out HB3.out HS3.out HPL3.out
                            exact ⟨s.go tt, A3, c3, rfl, rfl, rfl, Nat.le_trans hlk (Nat.le_succ _), Nat.le_trans (List.length_filter_le _ _) (by omega), Lib.hid ⟨hR.below (drewN_below _ _), HC.out⟩⟩
                    | false =>
                      clear HPB3 hrise
                      as_aux_lemma =>
                        go_wp2_with fail
                        go_meet
                        exact ⟨s, A, c, rfl, rfl, rfl, by omega, by omega, Lib.hid ⟨HIn.out.same (Below.refl _ _), HC.out⟩⟩
          case rest =>
            obtain ⟨s', A', c', rfl, rfl, rfl, hlk', hxk', HR⟩ := hcut
            clear HIn HC a0 a1 a2 hal hlk hxk HPB HNA
            obtain ⟨X', hw', hX'1, hX'2⟩ := HR.out.1.whl
            have hok : s'.Ok := hw'.ok
            have hNx := next_pub hw'
            unfold ptr at hNx
            have hrise := hok.rise
            have hLen : ∀ w1, Below wc.heap.size wc w1 → Calls Try.prog 19 #[.pointer (some ⟨g, 0, none⟩)] w1 fun e w' => e = .returned (.int .i64 (s'.xs.length : Int)) ∧ w1 = w' := fun w1 hb => len_any (hw'.below hb)
            have hNow : ∀ w1, Below wc.heap.size wc w1 → Calls Try.prog 20 #[.pointer (some ⟨g, 0, none⟩)] w1 fun e w' => e = .returned (.int .i64 (s'.now : Int)) ∧ w1 = w' := fun w1 hb => now_any (hw'.below hb)
            have hTim : ∀ w1, Below wc.heap.size wc w1 → Tims w1 w1.heap.size A' s'.xs := fun w1 hb => Tims.own (HR.out.1.below hb).row
            have hdue : ∀ y ∈ s'.xs, y.due ≤ 1099511627776 := fun y hy => (hok.due y hy).1
            have HLen := Lib.hid hLen
            have HNow := Lib.hid hNow
            have HTim := Lib.hid hTim
            have HDue := Lib.hid hdue
            clear hLen hNow hTim hdue hw' hX'1 hX'2 hok
            by_cases hx0 : s'.xs.length = 0
            · have hz : s'.xs = [] := List.eq_nil_of_length_eq_zero hx0
              have hN0 := hNx.mono (R' := fun e w' => e = .returned (.tuple #[.int .i64 0, .bool false]) ∧ Below wc.heap.size wc w') fun e w' ⟨h1, h2⟩ => ⟨by
                rcases h1 with ⟨y, hy, _⟩ | h1
                · rw [hz] at hy; cases hy
                · exact h1.2, h2⟩
              have HN0 := Lib.hid hN0
              clear hN0 hNx
              have HFN := Lib.hid (rnext_none A' c')
              rw [← hx0] at HFN
              have HX0 := Lib.hid hx0
              clear hz hx0
              as_aux_lemma =>
                go_wp2_with (first
                  | (go_at_call 17; (with_reducible refine HN0.out.mono ?_); rintro e w1 ⟨rfl, hb1⟩)
                  | (go_at_call 18; (with_reducible refine (HFN.out w1).mono ?_); rintro e w2 ⟨rfl, rfl⟩)
                  | (go_at_call 19; (with_reducible refine (HLen.out _ hb1).mono ?_); rintro e w3 ⟨rfl, rfl⟩)
                  | (go_at_call 20; (with_reducible refine (HNow.out _ hb1).mono ?_); rintro e w4 ⟨rfl, rfl⟩))
                go_roundw
                case rel => exact ⟨k + 1, s', A', c', rfl, rfl, rfl, by go_num, by omega, hlk', hxk', Lib.hid ⟨HR.out.1.below hb1, HR.out.2⟩⟩
                case measure => simp [intOf]; omega
            · have hcp : s'.xs.length ≤ c' := by
                obtain ⟨A1, c1, e, h1⟩ := own_form3 HR.out.1.row
                simp only [Value.slice.injEq] at e
                omega
              have hN1 := hNx.mono (R' := fun e w' => (∃ d : Nat, e = .returned (.tuple #[.int .i64 (d : Int), .bool true]) ∧ ∀ j, FstIn s'.xs s'.xs.length j → (tth s'.xs j).due = d) ∧ Below wc.heap.size wc w') fun e w' ⟨h1, h2⟩ => ⟨by
                rcases h1 with ⟨y, hy, hm, he⟩ | ⟨h1, _⟩
                · refine ⟨y.due, he, fun j hj => ?_⟩
                  have h3 := hm (tth s'.xs j) (by rw [tth_get hj.lt]; exact List.getElem_mem _)
                  rcases hj.first hrise y hy with h4 | h4
                  · rw [h4]
                  · unfold ord at h4; omega
                · have h3 := h1 s'.xs[0] (List.getElem_mem _)
                  have h4 := HDue.out s'.xs[0] (List.getElem_mem _)
                  omega, h2⟩
              have HN1 := Lib.hid hN1
              obtain ⟨bA, oA, rfl, _⟩ := (HTim.out wc (Below.refl _ _)).at0 (by omega)
              clear hN1 hNx hrise
              as_aux_lemma =>
                go_wp2_with (first
                  | (go_at_call 17; (with_reducible refine HN1.out.mono ?_); rintro e w1 ⟨⟨d, rfl, hd⟩, hb1⟩; have HD := Lib.hid hd; clear hd)
                  | (go_at_call 18; refine (rnext_some _ s'.xs c' w1 (HTim.out w1 hb1) (by omega) (by omega)).mono ?_; rintro e w2 ⟨j, hfj, rfl, q, rfl⟩; have hjl := hfj.lt; have hj0 : decide ((0 : Int) ≤ (j : Int)) = true := decide_eq_true (by omega); have cd := (HTim.out _ (hb1.trans ((drewN_below w1 q).mono hb1.size))).du rfl hjl; rw [HD.out j hfj] at cd; have hb2 := hb1.trans ((drewN_below w1 q).mono hb1.size); clear hfj)
                  | (go_at_call 19; (with_reducible refine (HLen.out _ hb2).mono ?_); rintro e w3 ⟨rfl, rfl⟩)
                  | (go_at_call 20; (with_reducible refine (HNow.out _ hb2).mono ?_); rintro e w4 ⟨rfl, rfl⟩))
                go_roundw
                case rel => exact ⟨k + 1, s', _, c', rfl, rfl, rfl, by go_num, by omega, hlk', hxk', Lib.hid ⟨HR.out.1.below hb2, HR.out.2⟩⟩
                case measure => simp [intOf]; omega
    · obtain rfl : n = k := by omega
      go_wp2
      go_ret
      exact ⟨rfl, HI.out.1.bel⟩
end Go.Proofs.Ytobodianbjfgfaa.Wh
