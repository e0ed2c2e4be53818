/-
  The law function ReadyPlays of at most 40 acts on a queue: it returns true.
  Conditions: the capacity and the ageing are a queue's.
-/
import Derived.Test.YtkfkjpabollaoaaRdyPlays1
import Derived.Test.YtkfkjpabollaoaaRdyArg
import Derived.WalkKit
import Derived.Deep.DeepCutAuto
import Derived.Deep.CutBlock
namespace Go.Proofs.Ytkfkjpabollaoaa.readyPlays
open Go.ChangeShapes Go.WideShapes Go.ChangeAt Go.RowKit

set_option maxHeartbeats 16000000 in
set_option maxRecDepth 100000 in
theorem walk_main (cap age : Int) (A0 : Option Addr) (n ca : Nat) (f : Nat → Nat → Int) (w : World) (h40 : ¬ 40 < n) (hcr : ¬ (cap < 1 ∨ 65536 < cap ∨ age < 1 ∨ 1048576 < age)) (hf : ∀ i, i < n → IntsAt w w.heap.size A0 .i64 4 i (f i)) :
    Calls Try.prog 3 #[.int .i64 cap, .int .i64 age, .slice A0 n ca] w fun e w' => e = .returned (.bool true) ∧ Below w.heap.size w w' := by
  have HF := Lib.hid hf
  clear hf
  obtain ⟨cp, rfl⟩ : ∃ cp : Nat, cap = (cp : Int) := ⟨cap.toNat, by omega⟩
  obtain ⟨m, rfl⟩ : ∃ m : Nat, age = (m : Int) := ⟨age.toNat, by omega⟩
  have hc1 : 1 ≤ cp := by omega
  have hc2 : cp ≤ 65536 := by omega
  have hm1 : 1 ≤ m := by omega
  have hm2 : m ≤ 1048576 := by omega
  have d1 : decide ((cp : Int) < 1) = false := by simp; omega
  have d2 : decide ((65536 : Int) < (cp : Int)) = false := by simp; omega
  have d3 : decide ((m : Int) < 1) = false := by simp; omega
  have d4 : decide ((1048576 : Int) < (m : Int)) = false := by simp; omega
  have hN : ∀ w, Calls Try.prog 7 #[.int .i64 (cp : Int), .int .i64 (m : Int)] w fun e w' => e = .returned (.pointer (some ⟨w.heap.size + 1, 0, none⟩)) ∧ Que w' (w.heap.size + 1) (fun i => i < w.heap.size) ⟨cp, m, 0, []⟩ ∧ Below w.heap.size w w' := fun w => new_any cp m w hc1 hc2 hm1 hm2
  have HN := Lib.hid hN
  clear hN hcr
  go_enter Try.func3, Try.ntmps3
  go_wp2_with (first
    | (go_at_call 6; (with_reducible refine (awake_any _).mono ?_); rintro e w0 ⟨rfl, hb0⟩)
    | (go_at_call 7; (with_reducible refine (HN.out _).mono ?_); rintro e w1 ⟨rfl, hq1, hb1⟩; have Hq1 := Lib.hid hq1; clear hq1))
  have hs0 := hb0.size
  have hs1 := hb1.size
  have hbw : Below w.heap.size w w1 := hb0.trans (hb1.mono hb0.size)
  obtain ⟨g, hg⟩ : ∃ g, g = w0.heap.size + 1 := ⟨_, rfl⟩
  rw [← hg] at Hq1 ⊢
  have hAt : RdAt w w1 g ⟨cp, m, 0, []⟩ none 0 := ⟨⟨_, Hq1.out, fun i hi => by omega, fun i hi => by simp [Value.ownBlock] at hi⟩, World.ownsRow_nil _ _ _ _, hbw⟩
  have HAt := Lib.hid hAt
  clear hAt hbw hg hb0 hb1 Hq1 hs0 hs1
  go_loopw [8, 9, 10] (fun vx vl vi wr => ∃ (k : Nat) (s : Qs) (A : Option Addr) (c : Nat), vx = .slice A s.xs.length c ∧ vl = .int .i64 (s.last : Int) ∧ vi = .int .i64 (k : Int) ∧ k ≤ n ∧ s.last ≤ k ∧ s.xs.length ≤ k ∧ Hid (RdAt w wr g s A c ∧ s.cap = cp ∧ s.age = m)) (fun _ _ vi _ => n - (intOf vi).toNat)
  case atStart => exact ⟨0, ⟨cp, m, 0, []⟩, none, 0, rfl, rfl, rfl, by omega, by simp, by simp, Lib.hid ⟨HAt.out, rfl, rfl⟩⟩
  case round =>
    clear HAt
    obtain ⟨k, s, A, c, rfl, rfl, rfl, hk, hlk, hxk, HI⟩ := hrel
    by_cases hkn : k < n
    · have hat := HF.out k hkn
      obtain ⟨b, o, rfl⟩ : ∃ b o, A0 = some ⟨b, o, none⟩ := by obtain ⟨b, o, e, _⟩ := hat; exact ⟨b, o, e⟩
      have c0 := (hat.below HI.out.1.bel).get 0 (by omega)
      have c1 := (hat.below HI.out.1.bel).get 1 (by omega)
      have c2 := (hat.below HI.out.1.bel).get 2 (by omega)
      have c3 := (hat.below HI.out.1.bel).get 3 (by omega)
      rw [Nat.add_zero] at c0
      obtain ⟨x1, y1⟩ : -9223372036854775808 ≤ f k 1 ∧ f k 1 ≤ 9223372036854775807 := fits (hat.wf 1 (by omega)) rfl rfl
      generalize f k 0 = kind at c0
      generalize f k 1 = id at c1 x1 y1
      generalize f k 2 = prio at c2
      generalize f k 3 = now at c3
      clear hat
      go_upto_block 2 with (fail)
      obtain ⟨hRd, hcp, hag⟩ := HI.out
      obtain ⟨X, hIn⟩ := hRd.box (.cells #[.int .i64 kind, .int .i64 id, .int .i64 prio, .int .i64 now] 28)
      have a0 : (wr.alloc (.cells #[.int .i64 kind, .int .i64 id, .int .i64 prio, .int .i64 now] 28)).cell? ⟨wr.heap.size, 0, none⟩ = some (.int .i64 kind) := by simp
      have a1 : (wr.alloc (.cells #[.int .i64 kind, .int .i64 id, .int .i64 prio, .int .i64 now] 28)).cell? ⟨wr.heap.size, 1, none⟩ = some (.int .i64 id) := by simp
      have a2 : (wr.alloc (.cells #[.int .i64 kind, .int .i64 id, .int .i64 prio, .int .i64 now] 28)).cell? ⟨wr.heap.size, 2, none⟩ = some (.int .i64 prio) := by simp
      have a3 : (wr.alloc (.cells #[.int .i64 kind, .int .i64 id, .int .i64 prio, .int .i64 now] 28)).cell? ⟨wr.heap.size, 3, none⟩ = some (.int .i64 now) := by simp
      have hal : wr.heap.size < (wr.alloc (.cells #[.int .i64 kind, .int .i64 id, .int .i64 prio, .int .i64 now] 28)).heap.size := by simp
      have HIn := Lib.hid hIn
      generalize (wr.alloc (.cells #[.int .i64 kind, .int .i64 id, .int .i64 prio, .int .i64 now] 28)) = W at HIn a0 a1 a2 a3 hal ⊢
      generalize wr.heap.size = aB at HIn a0 a1 a2 a3 hal ⊢
      have HC := Lib.hid (And.intro hcp hag)
      clear hIn hRd hcp hag HI c0 c1 c2 c3
      go_cut [8, 9] (fun vx vl wc => ∃ (s' : Qs) (A' : Option Addr) (c' : Nat), vx = .slice A' s'.xs.length c' ∧ vl = .int .i64 (s'.last : Int) ∧ s'.last ≤ k + 1 ∧ s'.xs.length ≤ k + 1 ∧ Hid (RdAt w wc g s' A' c' ∧ s'.cap = cp ∧ s'.age = m))
      case first =>
        have hsm : s.xs.length ≤ 300 := by omega
        have hll : s.last < 4611686018427387904 := by omega
        obtain ⟨pb, hpb⟩ : ∃ pb, pb = decide (kind = 0 ∨ kind = 1 ∨ kind = 2) := ⟨_, rfl⟩
        have HPB := Lib.hid hpb
        clear hpb
        go_upto_if 65 with (fail)
        go_cut [65] (fun v65 wx => v65 = .bool pb ∧ wx = W)
        case first =>
          by_cases k0 : kind = 0
          · have e0 : (kind == 0) = true := by simp [k0]
            have hp : pb = true := by rw [HPB.out]; exact decide_eq_true (.inl k0)
            subst hp
            clear k0
            as_aux_lemma =>
              go_wp2_with fail
              go_meet
              exact ⟨by rw [e0], rfl⟩
          · have e0 : (kind == 0) = false := by simp [k0]
            by_cases k1 : kind = 1
            · have e1 : (kind == 1) = true := by simp [k1]
              have hp : pb = true := by rw [HPB.out]; exact decide_eq_true (.inr (.inl k1))
              subst hp
              clear k0 k1
              as_aux_lemma =>
                go_wp2_with fail
                go_meet
                exact ⟨rfl, rfl⟩
            · have e1 : (kind == 1) = false := by simp [k1]
              by_cases k2 : kind = 2
              · have e2 : (kind == 2) = true := by simp [k2]
                have hp : pb = true := by rw [HPB.out]; exact decide_eq_true (.inr (.inr k2))
                subst hp
                clear k0 k1 k2
                as_aux_lemma =>
                  go_wp2_with fail
                  go_meet
                  exact ⟨rfl, rfl⟩
              · have e2 : (kind == 2) = false := by simp [k2]
                have hp : pb = false := by rw [HPB.out]; exact decide_eq_false (by omega)
                subst hp
                clear k0 k1 k2
                as_aux_lemma =>
                  go_wp2_with fail
                  go_meet
                  exact ⟨rfl, rfl⟩
        case rest =>
          obtain ⟨rfl, rfl⟩ := hcut
          cases pb with
          | true =>
            clear HPB a0
            cases ha : argB prio now with
            | false =>
              have HP := Lib.hid (put_arg g id prio now wc ha)
              unfold ptr at HP
              have hbad : prio < 0 ∨ 255 < prio ∨ now < 0 ∨ 1099511627776 < now := by
                unfold argB goodB at ha
                rw [Bool.and_eq_false_iff] at ha
                rcases ha with h1 | h1 <;> have := of_decide_eq_false h1 <;> omega
              clear ha
              by_cases p1 : prio < 0
              · clear hbad
                as_aux_lemma =>
                  go_wp2_with (go_at_call 8; (with_reducible refine HP.out.mono ?_); rintro e w2 ⟨rfl, rfl⟩)
                  go_meet
                  exact ⟨s, A, c, rfl, rfl, by omega, by omega, Lib.hid ⟨HIn.out.same (Below.refl _ _), HC.out⟩⟩
              · by_cases p2 : 255 < prio
                · clear hbad
                  as_aux_lemma =>
                    go_wp2_with (go_at_call 8; (with_reducible refine HP.out.mono ?_); rintro e w2 ⟨rfl, rfl⟩)
                    go_meet
                    exact ⟨s, A, c, rfl, rfl, by omega, by omega, Lib.hid ⟨HIn.out.same (Below.refl _ _), HC.out⟩⟩
                · by_cases p3 : now < 0
                  · clear hbad
                    as_aux_lemma =>
                      go_wp2_with (go_at_call 8; (with_reducible refine HP.out.mono ?_); rintro e w2 ⟨rfl, rfl⟩)
                      go_meet
                      exact ⟨s, A, c, rfl, rfl, by omega, by omega, Lib.hid ⟨HIn.out.same (Below.refl _ _), HC.out⟩⟩
                  · have p4 : 1099511627776 < now := by omega
                    clear hbad
                    as_aux_lemma =>
                      go_wp2_with (go_at_call 8; (with_reducible refine HP.out.mono ?_); rintro e w2 ⟨rfl, rfl⟩)
                      go_meet
                      exact ⟨s, A, c, rfl, rfl, by omega, by omega, Lib.hid ⟨HIn.out.same (Below.refl _ _), HC.out⟩⟩
            | true =>
              obtain ⟨p0, p1, _, n0, n1⟩ := argB_parts ha
              have q0 : ¬ prio < 0 := by omega
              have q1 : ¬ 255 < prio := by omega
              have q2 : ¬ now < 0 := by omega
              have q3 : ¬ 1099511627776 < now := by omega
              by_cases hfu : s.cap ≤ s.xs.length
              · have HP := Lib.hid (put_full HIn.out.que (id := id) ha hfu)
                unfold ptr at HP
                have hdc : decide (cp ≤ s.xs.length) = true := decide_eq_true (by rw [← HC.out.1]; exact hfu)
                clear hfu ha
                as_aux_lemma =>
                  go_wp2_with (go_at_call 8; (with_reducible refine HP.out.mono ?_); rintro e w2 ⟨rfl, hb2⟩; have a1' := (hb2.cell (p := ⟨aB, 1, none⟩) hal).trans a1; have a2' := (hb2.cell (p := ⟨aB, 2, none⟩) hal).trans a2; have a3' := (hb2.cell (p := ⟨aB, 3, none⟩) hal).trans a3)
                  go_meet
                  exact ⟨s, A, c, rfl, rfl, by omega, by omega, Lib.hid ⟨HIn.out.same hb2, HC.out⟩⟩
              · have HP := Lib.hid (put_ok HIn.out.que (id := id) ha (by omega) hll)
                unfold ptr at HP
                have hdc : decide (cp ≤ s.xs.length) = false := decide_eq_false (by rw [← HC.out.1]; exact hfu)
                obtain ⟨i0, hi0, hz0, hz1, hz2⟩ := info_parts infoEn
                obtain ⟨w0b, w1b, w2b, w3b⟩ := wt_bounds p0 p1 HIn.out.que.ok.age n0 n1
                rw [HC.out.2] at w0b w1b
                clear hfu ha w2b w3b
                as_aux_lemma =>
                  go_wp2_with (first
                    | (go_at_call 8; (with_reducible refine HP.out.mono ?_); rintro e w2 ⟨rfl, hq2, hk2⟩; have a1' := (HIn.out.keptCell hk2 hal 1).trans a1; have a2' := (HIn.out.keptCell hk2 hal 2).trans a2; have a3' := (HIn.out.keptCell hk2 hal 3).trans a3; have hbs2 := (HIn.out.keptBel hk2).size; have HRow2 := Lib.hid (HIn.out.keptRow hk2); have HQ2 := Lib.hid hq2; have HK2 := Lib.hid hk2; clear hq2 hk2)
                    | (at_builtin; refine wpList_append_own_at _ rfl (.tmp 116) (.tmp 128) 26 rfl w.heap.size 33 i0 _ 3 24 Try.underlying26 hi0 hz0 hz1 hz2 rfl (by decide) (.slice A s.xs.length c) s.xs.length (cellsE s.xs) rfl (HRow2.out.alloc _) ⟨w2.heap.size, 0, none⟩ 1 1 [.int .i64 ((s.last : Int) + 1), .int .i64 id, .int .i64 (prio * (m : Int) - now)] rfl rfl (cells_new (by simp) #[.int .i64 ((s.last : Int) + 1), .int .i64 id, .int .i64 (prio * (m : Int) - now)] _) (by simp [Value.oneCell']) (by unfold maxLen; omega) (by omega) (by simp; omega) ?_; intro v3 w3 hown3 hg3 _ hat3; have HG3 := Lib.hid hg3; have HO3 := Lib.hid hown3; have HT3 := Lib.hid hat3; clear hown3 hg3 hat3))
                  go_meet
                  have ho := HO3.out
                  rw [← HC.out.2, ← put_cells s id prio now, ← put_len s id prio now] at ho
                  obtain ⟨A3, c3, e3, hR3⟩ := HIn.out.put HQ2.out HK2.out HG3.out ho HT3.out
                  exact ⟨s.put id prio now, A3, c3, e3, by simp [Qs.put], by simp [Qs.put]; omega, by rw [put_len]; omega, Lib.hid ⟨hR3, HC.out⟩⟩
          | false =>
            have hE := Ents.own HIn.out.row
            have hrise := HIn.out.que.ok.rise
            have hcap : s.xs.length ≤ c := by
              obtain ⟨A1, c1, e, h1⟩ := own_form3 HIn.out.row
              simp only [Value.slice.injEq] at e
              omega
            clear HPB a0
            by_cases k3 : kind = 3
            · have e3 : (kind == 3) = true := by simp [k3]
              clear k3
              by_cases hx : 0 < s.xs.length
              · obtain ⟨b2, o2, rfl, _⟩ := hE.at0 hx
                have HFS := Lib.hid (rfirst_some _ s.xs c wc hE hsm hx)
                have hT : ∀ j q, FstIn s.xs s.xs.length j → Calls Try.prog 10 #[.pointer (some ⟨g, 0, none⟩)] (wc.drewN q) fun e w' => e = .returned (.tuple #[.int .i64 (eth s.xs j).id, .int .i64 ((eth s.xs j).h : Int), .bool true]) ∧ Que w' g X (s.drop (eth s.xs j).h) ∧ Keep X (wc.drewN q) w' := fun j q hj => take_is (HIn.out.que.drewN q) _ (hj.first hrise) (by omega)
                have HT := Lib.hid hT
                have HRise := Lib.hid hrise
                clear hT hE hrise
                as_aux_lemma =>
                  go_wp2_with (first
                    | (go_at_call 9; refine HFS.out.mono ?_; rintro e w2 ⟨j, hfj, rfl, q, rfl⟩; have hjl := hfj.lt; have hj0 : decide ((0 : Int) ≤ (j : Int)) = true := decide_eq_true (by omega); have HFJ := Lib.hid hfj; clear hfj)
                    | (go_at_call 10; (with_reducible refine (HT.out j q HFJ.out).mono ?_); rintro e w3 ⟨rfl, hq3, hk3⟩; have hk3' : Keep X wc w3 := ⟨hk3.os, hk3.tape, hk3.output, hk3.size, hk3.block⟩; have hr3 := HIn.out.keptRow hk3'; have ci := (Ents.own hr3).idc rfl hjl; have ch := (Ents.own hr3).hd rfl hjl; have HR3 := Lib.hid hr3; have HQ3 := Lib.hid hq3; have HK3 := Lib.hid hk3'; clear hq3 hk3 hk3' hr3)
                    | (go_at_call 11; refine (rwithout_any _ s.xs c j w3 (Ents.own HR3.out) hsm hcap hjl).mono ?_; rintro e w4 ⟨v4, rfl, hown4, hb4⟩; have HO4 := Lib.hid hown4; have HB4 := Lib.hid hb4; clear hown4 hb4))
                  go_meet
                  obtain ⟨A4, c4, e4, hR4⟩ := HIn.out.anew HQ3.out HK3.out HB4.out HO4.out (drop_at HRise.out hjl)
                  exact ⟨_, A4, c4, e4, rfl, Nat.le_trans hlk (Nat.le_succ _), Nat.le_trans (List.length_filter_le _ _) (by omega), Lib.hid ⟨hR4, HC.out⟩⟩
              · obtain ⟨n0, hn0⟩ : ∃ z, z = s.xs.length := ⟨_, rfl⟩
                have hz : s.xs = [] := List.eq_nil_of_length_eq_zero (by omega)
                have HT := Lib.hid (take_none HIn.out.que hz)
                have hzl : s.xs.length = 0 := by omega
                have HZ := Lib.hid hzl
                unfold ptr at HT
                have HFN := Lib.hid (rfirst_none A c wc)
                rw [← hzl] at HFN
                clear hz hx hn0 hE hrise hzl
                as_aux_lemma =>
                  go_wp2_with (first
                    | (go_at_call 9; (with_reducible refine HFN.out.mono ?_); rintro e w2 ⟨rfl, rfl⟩)
                    | (go_at_call 10; (with_reducible refine HT.out.mono ?_); rintro e w3 ⟨rfl, rfl⟩))
                  go_meet
                  exact ⟨s, A, c, rfl, rfl, by omega, by omega, Lib.hid ⟨HIn.out.same (Below.refl _ _), HC.out⟩⟩
            · have e3 : (kind == 3) = false := by simp [k3]
              clear k3
              by_cases k4 : kind = 4
              · have e4 : (kind == 4) = true := by simp [k4]
                clear k4
                by_cases hx : ∃ y ∈ s.xs, (y.h : Int) = id
                · obtain ⟨y, hy, rfl⟩ := hx
                  obtain ⟨j, hjl, hej⟩ := List.mem_iff_getElem.1 hy
                  rw [← eth_get hjl] at hej
                  subst hej
                  obtain ⟨b2, o2, rfl, _⟩ := hE.at0 (by omega)
                  have cw := hE.wt rfl hjl
                  have HFd := Lib.hid (rfind_yes _ s.xs c j wc hE hsm hjl hrise)
                  have HWt := Lib.hid (weight_yes HIn.out.que hy (by omega))
                  have HRm := Lib.hid (remove_yes HIn.out.que hy (by omega))
                  have hj0 : decide ((0 : Int) ≤ (j : Int)) = true := decide_eq_true (by omega)
                  unfold ptr at HWt HRm
                  have HRise := Lib.hid hrise
                  clear hE hrise hy
                  as_aux_lemma =>
                    go_wp2_with (first
                      | (go_at_call 12; (with_reducible refine HFd.out.mono ?_); rintro e w2 ⟨rfl, rfl⟩)
                      | (go_at_call 13; (with_reducible refine HWt.out.mono ?_); rintro e w3 ⟨rfl, rfl⟩)
                      | (go_at_call 14; (with_reducible refine HRm.out.mono ?_); rintro e w4 ⟨rfl, hq4, hk4⟩; have HR4 := Lib.hid (HIn.out.keptRow hk4); have HQ4 := Lib.hid hq4; have HK4 := Lib.hid hk4; clear hq4 hk4)
                      | (go_at_call 11; refine (rwithout_any _ s.xs c j w4 (Ents.own HR4.out) hsm hcap hjl).mono ?_; rintro e w5 ⟨v5, rfl, hown5, hb5⟩; have HO5 := Lib.hid hown5; have HB5 := Lib.hid hb5; clear hown5 hb5))
                    go_meet
                    obtain ⟨A5, c5, e5, hR5⟩ := HIn.out.anew HQ4.out HK4.out HB5.out HO5.out (drop_at HRise.out hjl)
                    exact ⟨_, A5, c5, e5, rfl, Nat.le_trans hlk (Nat.le_succ _), Nat.le_trans (List.length_filter_le _ _) (by omega), Lib.hid ⟨hR5, HC.out⟩⟩
                · have hno : NoH s id := fun y hy e => hx ⟨y, hy, e⟩
                  have HFd := Lib.hid (rfind_no A s.xs c id wc hE hsm hno)
                  have HWt := Lib.hid (weight_no HIn.out.que hno x1 y1)
                  have HRm := Lib.hid (remove_no HIn.out.que hno x1 y1)
                  unfold ptr at HWt HRm
                  clear hx hno hE hrise
                  as_aux_lemma =>
                    go_wp2_with (first
                      | (go_at_call 12; (with_reducible refine HFd.out.mono ?_); rintro e w2 ⟨rfl, rfl⟩)
                      | (go_at_call 13; (with_reducible refine HWt.out.mono ?_); rintro e w3 ⟨rfl, rfl⟩)
                      | (go_at_call 14; (with_reducible refine HRm.out.mono ?_); rintro e w4 ⟨rfl, rfl⟩))
                    go_meet
                    exact ⟨s, A, c, rfl, rfl, by omega, by omega, Lib.hid ⟨HIn.out.same (Below.refl _ _), HC.out⟩⟩
              · have e4 : (kind == 4) = false := by simp [k4]
                clear k4 hE hrise
                as_aux_lemma =>
                  go_wp2_with fail
                  go_meet
                  exact ⟨s, A, c, rfl, rfl, by omega, by omega, Lib.hid ⟨HIn.out.same (Below.refl _ _), HC.out⟩⟩
      case rest =>
        obtain ⟨s', A', c', rfl, rfl, hlk', hxk', HR⟩ := hcut
        clear HIn HC a0 a1 a2 a3 hal hlk hxk
        have hok : s'.Ok := by obtain ⟨X', hq, _⟩ := HR.out.1.que; exact hq.ok
        have hOrd : Calls Try.prog 15 #[.pointer (some ⟨g, 0, none⟩)] wc (OrderEnd wc s'.xs) := by
          obtain ⟨X', hq, _⟩ := HR.out.1.que
          exact order_any hq
        have hRef : ∀ w1, Below wc.heap.size wc w1 → Calls Try.prog 16 #[.slice A' s'.xs.length c'] w1 (OrderEnd w1 s'.xs) := fun w1 hb => rorder_any A' s'.xs c' w1 (own_to0 (HR.out.1.below hb).row) (by omega) hok.rise
        have hLen : ∀ w1, Below wc.heap.size wc w1 → Calls Try.prog 17 #[.pointer (some ⟨g, 0, none⟩)] w1 fun e w' => e = .returned (.int .i64 (s'.xs.length : Int)) ∧ w1 = w' := fun w1 hb => by
          obtain ⟨X', hq, _⟩ := (HR.out.1.below hb).que
          exact (len_any hq).mono fun e w' ⟨h1, h2⟩ => ⟨h1, h2.symm⟩
        have hFst : ∀ w1 ys, Below wc.heap.size wc w1 → OrderOf s'.xs ys → 0 < ys.length → Calls Try.prog 18 #[.pointer (some ⟨g, 0, none⟩)] w1 fun e w' => e = .returned (.tuple #[.int .i64 (eth ys 0).id, .int .i64 ((eth ys 0).h : Int), .bool true]) ∧ ∃ q, w' = w1.drewN q := fun w1 ys hb ho hy => by
          obtain ⟨X', hq, _⟩ := (HR.out.1.below hb).que
          exact first_is hq _ (fun y hyy => first_uni hok (order_first ho hy) hyy) (fun e => by have h1 := ho.1.length_eq; rw [e, List.length_nil] at h1; omega)
        have hFst0 : ∀ w1, Below wc.heap.size wc w1 → s'.xs.length = 0 → Calls Try.prog 18 #[.pointer (some ⟨g, 0, none⟩)] w1 fun e w' => e = .returned (.tuple #[.int .i64 0, .int .i64 0, .bool false]) ∧ w' = w1 := fun w1 hb h0 => by
          obtain ⟨X', hq, _⟩ := (HR.out.1.below hb).que
          exact first_none hq (List.eq_nil_of_length_eq_zero h0)
        have HOrd := Lib.hid hOrd
        have HRef := Lib.hid hRef
        have HLen := Lib.hid hLen
        have HFst := Lib.hid hFst
        have HFst0 := Lib.hid hFst0
        have HOK := Lib.hid hok
        clear hOrd hRef hLen hFst hFst0 hok
        by_cases hx0 : s'.xs.length = 0
        · have HX0 := Lib.hid hx0
          clear hx0
          as_aux_lemma =>
            go_wp2_with (first
              | (go_at_call 15; refine HOrd.out.mono ?_; rintro e w1 ⟨A1, c1, ys, rfl, ho1, _, hb1⟩; have hyl : ys.length = s'.xs.length := ho1.1.length_eq; obtain rfl : ys = [] := List.eq_nil_of_length_eq_zero (hyl.trans HX0.out); simp only [List.length_nil]; clear hyl ho1)
              | (go_at_call 16; refine (HRef.out w1 hb1).mono ?_; rintro e w2 ⟨A2, c2, zs, rfl, ho2, _, hb2⟩; have hzl : zs.length = s'.xs.length := ho2.1.length_eq; obtain rfl : zs = [] := List.eq_nil_of_length_eq_zero (hzl.trans HX0.out); simp only [List.length_nil]; have hb12 : Below wc.heap.size wc w2 := hb1.trans (hb2.mono hb1.size); clear hzl ho2 hb1 hb2)
              | (go_at_call 17; (with_reducible refine (HLen.out _ hb12).mono ?_); rintro e w3 ⟨rfl, rfl⟩))
            refine wp_loop_rounds 1 ?_
            rw [rounds_succ]
            go_wp2_with (go_at_call 18; (with_reducible refine (HFst0.out _ hb12 HX0.out).mono ?_); rintro e w4 ⟨rfl, rfl⟩)
            go_roundw
            case rel => exact ⟨k + 1, s', A', c', rfl, rfl, by go_num, by omega, hlk', hxk', Lib.hid ⟨HR.out.1.below hb12, HR.out.2⟩⟩
            case measure => simp [intOf]; omega
        · as_aux_lemma =>
            go_wp2_with (first
              | (go_at_call 15; refine HOrd.out.mono ?_; rintro e w1 ⟨A1, c1, ys, rfl, ho1, hr1, hb1⟩; have hyl : ys.length = s'.xs.length := ho1.1.length_eq; have hy0 : 0 < ys.length := (by omega); obtain ⟨g1, _, e1, _⟩ := own_some hr1 hy0; obtain rfl : A1 = some ⟨g1, 0, none⟩ := (Value.slice.inj e1).1; have HO1 := Lib.hid ho1; have HR1 := Lib.hid hr1; clear ho1 hr1 e1)
              | (go_at_call 16; refine (HRef.out w1 hb1).mono ?_; rintro e w2 ⟨A2, c2, zs, rfl, ho2, hr2, hb2⟩; obtain rfl : zs = ys := order_one (ok_nd HOK.out) ho2.1 HO1.out.1 ho2.2 HO1.out.2; obtain ⟨g2, _, e2, _⟩ := own_some hr2 hy0; obtain rfl : A2 = some ⟨g2, 0, none⟩ := (Value.slice.inj e2).1; have hb12 : Below wc.heap.size wc w2 := hb1.trans (hb2.mono hb1.size); have HR1' := Lib.hid (own_keep HR1.out hb2); have HR2 := Lib.hid hr2; clear ho2 hr2 e2 hb1 hb2)
              | (go_at_call 17; (with_reducible refine (HLen.out _ hb12).mono ?_); rintro e w3 ⟨rfl, rfl⟩))
            have cA : ∀ q j, j < zs.length → (w2.drewN q).cell? ⟨g1, j, none⟩ = some (.int .i64 ((eth zs j).h : Int)) := fun q j hj => by
              show w2.cell? _ = _
              rw [HR1'.out.cellAt j (by omega)]
              simp [eth_get hj, hj, hcell]
            have cB : ∀ q j, j < zs.length → (w2.drewN q).cell? ⟨g2, j, none⟩ = some (.int .i64 ((eth zs j).h : Int)) := fun q j hj => by
              show w2.cell? _ = _
              rw [HR2.out.cellAt j (by omega)]
              simp [eth_get hj, hj, hcell]
            have CA := Lib.hid cA
            have CB := Lib.hid cB
            clear cA cB
            go_loopw [23] (fun vj wq => ∃ j : Nat, vj = .int .i64 (j : Int) ∧ j ≤ zs.length ∧ Hid (∃ q, wq = w2.drewN q)) (fun vj _ => zs.length - (intOf vj).toNat)
            case atStart => exact ⟨0, rfl, by omega, Lib.hid ⟨0, rfl⟩⟩
            case round =>
              obtain ⟨j, rfl, hj, HQ⟩ := hrel
              by_cases hjl : j < zs.length
              · have c1j : wr.cell? ⟨g1, j, none⟩ = some (.int .i64 ((eth zs j).h : Int)) := by obtain ⟨q, hq⟩ := HQ.out; rw [hq]; exact CA.out q j hjl
                have c2j : wr.cell? ⟨g2, j, none⟩ = some (.int .i64 ((eth zs j).h : Int)) := by obtain ⟨q, hq⟩ := HQ.out; rw [hq]; exact CB.out q j hjl
                generalize (eth zs j).h = hj1 at c1j c2j
                go_wp2_with fail
                go_quiet (fail)
                go_wp2
                go_roundw
                case rel => exact ⟨j + 1, by go_num, by omega, Lib.hid (by obtain ⟨q, hq⟩ := HQ.out; exact ⟨q + nq, by rw [hq, World.drewN_drewN]⟩)⟩
                case measure => simp [intOf]; omega
              · obtain ⟨q, hq⟩ := HQ.out
                have hb3 : Below wc.heap.size wc wr := by rw [hq]; exact ⟨hb12.os, hb12.tape, hb12.output, hb12.size, hb12.block⟩
                have cB0 : ∀ q', (wr.drewN q').cell? ⟨g2, 0, none⟩ = some (.int .i64 ((eth zs 0).h : Int)) := fun q' => by rw [hq, World.drewN_drewN]; exact CB.out _ 0 hy0
                have HF1 := Lib.hid (HFst.out wr zs hb3 HO1.out hy0)
                have hd0 : decide ((0 : Int) < (zs.length : Int)) = true := decide_eq_true (by omega)
                have HB3 := Lib.hid hb3
                have CB0 := Lib.hid cB0
                clear hq cB0 hb3 HQ
                go_wp2_with (go_at_call 18; (with_reducible refine HF1.out.mono ?_); rintro e w4 ⟨rfl, q4, rfl⟩; have cc := CB0.out q4)
                go_roundw
                case rel => exact ⟨k + 1, s', A', c', rfl, rfl, by go_num, by omega, hlk', hxk', Lib.hid ⟨HR.out.1.below (HB3.out.trans ((drewN_below wr q4).mono HB3.out.size)), HR.out.2⟩⟩
                case measure => simp [intOf]; omega
    · obtain rfl : n = k := by omega
      go_wp2
      go_ret
      exact ⟨rfl, HI.out.1.bel⟩
end Go.Proofs.Ytkfkjpabollaoaa.readyPlays
