/-
  What the document's own Good and Check of a saga answer: as the program's.
  Conditions: the definition's steps lie in memory, its names are of moderate length.
-/
import Derived.Test.YteejocnogpaifaaGreatDoorSagMay
import Derived.Test.YteejocnogpaifaaGreatDoorDefRCheck
namespace Go.Proofs.YteejocnogpaifaaGreatDoor.Sa
open Go.RowKit Go.Sort
open Go.Proofs.YteejocnogpaifaaGreatDoor.El
open Go.Proofs.YteejocnogpaifaaGreatDoor.Bo (P Made ret_int ret_bool left wait)
open Go.Proofs.YteejocnogpaifaaGreatDoor.Df

theorem tries_ref {p : P} {s : Sg} (h : 0 ≤ s.ph ∧ s.ph ≤ 5) (ht : 0 ≤ s.tr) : TriesOk p s ↔ ¬ (overB s = false ∧ p.r + 1 < s.tr) ∧ ¬ (s.out = true ∧ (s.tr = 0 ∨ 1 < s.ph)) ∧ (s.ph ≠ 2 ∨ s.tr = p.r + 1) := by
  cases ho : s.out <;> simp [TriesOk, overB, ho] <;> omega
section
variable (nm : ByteArray) (dl : Int) (A : Option Addr) (n c : Nat) (ss : List Stp) (s : Sg) (w : World) (hd : Dn w nm A n c ss)
include hd
set_option maxRecDepth 100000 in
set_option maxHeartbeats 8000000 in
theorem rgood_any : Calls Tryz.prog 52 #[.agg #[.string nm, .int .i64 dl, .slice A n c], .agg #[.int .i64 s.id, .string s.dn, .int .i64 s.st, .int .i64 s.ph, .int .i64 s.sp, .int .i64 s.tr, .bool s.out, .int .i64 s.at_, .int .i64 s.sk]] w fun e w' => e = .returned (.bool (goodB nm dl ss s)) ∧ Below w.heap.size w w' := by
  have hck : ∀ W, Below w.heap.size w W → Calls Tryz.prog 50 #[.agg #[.string nm, .int .i64 dl, .slice A n c]] W (ChkPost nm dl ss W) := fun W hW =>
    rcheck_any nm dl A c ss n W hd.en (by have := hd.len; omega) (hd.mem.on hW) (by have := hd.nmz; omega) (fun s hs => by have := hd.names s hs; omega)
  obtain ⟨hC1, hC0⟩ := chk_ok hck
  have HB := Lib.hid (ed2 (w := w) (nm := nm) (dl := dl) (A := A) (n := n) (c := c) (s := s) (Below.refl _ _))
  have HT1 := Lib.hid (rtick_any s.st)
  have HT2 := Lib.hid (rtick_any s.at_)
  have hN := hd.en
  have hfp := field_plan
  by_cases hr : RightD nm dl ss
  · have HC := Lib.hid (hC1 hr)
    clear hC1 hC0 hck
    have hlen := (right_all hr).1
    have HG : Hid (0 ≤ s.sp → s.sp < n → ∀ W, Below w.heap.size w W → Calls Tryz.prog 54 #[.agg #[.string nm, .int .i64 dl, .slice A n c], .agg #[.int .i64 s.id, .string s.dn, .int .i64 s.st, .int .i64 s.ph, .int .i64 s.sp, .int .i64 s.tr, .bool s.out, .int .i64 s.at_, .int .i64 s.sk]] W fun e w' => e = .returned (.agg #[.int .i64 (planOf ss s).r, .int .i64 (planOf ss s).b, .int .i64 (planOf ss s).f, .int .i64 (planOf ss s).c]) ∧ Below W.heap.size W w') := Lib.hid fun h0 h1 W hW =>
      (rplan_any nm dl A n c ss s W hd.en (hd.mem.on hW) h0 h1).mono fun e w' ⟨he, hm⟩ => ⟨he, hm.below⟩
    have HPr : Hid (0 ≤ s.sp → s.sp < n → 0 ≤ (planOf ss s).r ∧ (planOf ss s).r ≤ 1000) := Lib.hid fun h0 h1 => by
      have := plan_at hr (t := s) h0 (by omega)
      exact ⟨this.1, this.2.1⟩
    have HR := Lib.hid hr
    by_cases hdn : s.dn = nm
    · have g1 := beq_yes hdn
      have HDN := Lib.hid hdn
      by_cases hst : 0 ≤ s.st ∧ s.st ≤ 1099511627776
      · rw [goodN_yes hst] at HT1
        have HST := Lib.hid hst
        by_cases hat : 0 ≤ s.at_ ∧ s.at_ ≤ 1099511627776
        · rw [goodN_yes hat] at HT2
          have HAT := Lib.hid hat
          have hn32 : n ≤ 32 := by omega
          have HLN : Hid (n = ss.length) := Lib.hid hN
          have HO := Lib.hid (rover_any s)
          have HX : Hid (0 ≤ s.sp → s.sp < n → 0 ≤ s.id → 0 ≤ s.sk → s.sk ≤ 32 → (h0 : 0 ≤ s.ph) → (h5 : s.ph ≤ 5) → (ht : 0 ≤ s.tr) → (goodB nm dl ss s = true ↔ ¬ (overB s = false ∧ (planOf ss s).r + 1 < s.tr) ∧ ¬ (s.out = true ∧ (s.tr = 0 ∨ 1 < s.ph)) ∧ (s.ph ≠ 2 ∨ s.tr = (planOf ss s).r + 1))) := Lib.hid fun q1 q2 q3 q4 q5 h0 h5 ht => by
            rw [goodB_iff, ← tries_ref ⟨h0, h5⟩ ht]
            exact ⟨fun hg => hg.tries, fun hx => ⟨hr, hdn, ⟨⟨q1, by omega⟩, q3, hst, hat, ⟨q4, q5⟩, ht⟩, hx⟩⟩
          have HY : Hid (goodB nm dl ss s = true → 0 ≤ s.sp ∧ s.sp < n ∧ 0 ≤ s.id ∧ 0 ≤ s.sk ∧ s.sk ≤ 32 ∧ 0 ≤ s.tr ∧ 0 ≤ s.ph ∧ s.ph ≤ 5) := Lib.hid fun hb => by
            have hg := goodB_iff.1 hb
            have q1 := hg.fld.sp; have q2 := hg.fld.id; have q3 := hg.fld.sk; have q4 := hg.fld.tr
            rcases hg.tries with h | h | h <;> omega
          generalize goodB nm dl ss s = G at HX HY ⊢
          generalize planOf ss s = p at *
          clear hr hdn hst hat hd hN hlen
          cases hv : overB s
          all_goals
            cases ho : s.out
            all_goals
              rw [hv] at HO
              rw [ho] at HG HO HB
              go_enter Tryz.func52, Tryz.ntmps52
              go_wp2_with (first
                | (go_at_call 50; (with_reducible refine (HC.out _ HB.out.b).mono ?_); rintro e w1 ⟨k, rfl, hm⟩; have H1 := Lib.hid (HB.out.on hm); clear hm; obtain ⟨d0, d1, d2⟩ := H1.out.cd; obtain ⟨c0, c1, c2, c3, c4, c5, c6, c7, c8⟩ := H1.out.cs)
                | (go_at_call 53; (with_reducible refine (HT1.out _).mono ?_); rintro e w2 ⟨rfl, rfl⟩)
                | (go_at_call 53; (with_reducible refine (HT2.out _).mono ?_); rintro e w2 ⟨rfl, rfl⟩)
                | (go_at_call 54; (with_reducible refine (HG.out (by omega) (by omega) _ H1.out.b).mono ?_); rintro e w3 ⟨rfl, hm⟩; have H3 := Lib.hid (H1.out.on hm); clear hm; obtain ⟨c0, c1, c2, c3, c4, c5, c6, c7, c8⟩ := H3.out.cs; have hpr := HPr.out (by omega) (by omega))
                | (go_at_call 27; (with_reducible refine (HO.out _).mono ?_); rintro e w4 ⟨rfl, hm⟩; have H4 := Lib.hid (H3.out.on hm.below); clear hm; obtain ⟨c0, c1, c2, c3, c4, c5, c6, c7, c8⟩ := H4.out.cs))
              all_goals
                go_ret
                refine ⟨ret_bool ?_, by first | exact H4.out.b | exact H1.out.b⟩
                first
                  | (have hy := HY.out
                     cases G with
                     | false => rfl
                     | true => have := hy rfl; omega)
                  | (have hx := HX.out (by omega) (by omega) (by omega) (by omega) (by omega) (by omega) (by omega) (by omega)
                     rw [hv, ho] at hx
                     rw [Bool.eq_iff_iff, hx]
                     first | (simp; done) | (simp; omega) | (simp_all; done) | (simp_all; omega))
        · rw [goodN_no hat] at HT2
          have HX := Lib.hid (goodB_no (nm := nm) (dl := dl) (ss := ss) (s := s) fun hg => hat hg.fld.at_)
          rw [HX.out]
          clear hr hdn hst hat hd hN hlen
          go_enter Tryz.func52, Tryz.ntmps52
          go_wp2_with (first
            | (go_at_call 50; (with_reducible refine (HC.out _ HB.out.b).mono ?_); rintro e w1 ⟨k, rfl, hm⟩; have H1 := Lib.hid (HB.out.on hm); clear hm; obtain ⟨d0, d1, d2⟩ := H1.out.cd; obtain ⟨c0, c1, c2, c3, c4, c5, c6, c7, c8⟩ := H1.out.cs)
            | (go_at_call 53; (with_reducible refine (HT1.out _).mono ?_); rintro e w2 ⟨rfl, rfl⟩)
            | (go_at_call 53; (with_reducible refine (HT2.out _).mono ?_); rintro e w2 ⟨rfl, rfl⟩))
          all_goals
            go_ret
            exact ⟨rfl, H1.out.b⟩
      · rw [goodN_no hst] at HT1
        have HX := Lib.hid (goodB_no (nm := nm) (dl := dl) (ss := ss) (s := s) fun hg => hst hg.fld.st)
        rw [HX.out]
        clear hr hdn hst hd hN hlen
        go_enter Tryz.func52, Tryz.ntmps52
        go_wp2_with (first
          | (go_at_call 50; (with_reducible refine (HC.out _ HB.out.b).mono ?_); rintro e w1 ⟨k, rfl, hm⟩; have H1 := Lib.hid (HB.out.on hm); clear hm; obtain ⟨d0, d1, d2⟩ := H1.out.cd; obtain ⟨c0, c1, c2, c3, c4, c5, c6, c7, c8⟩ := H1.out.cs)
          | (go_at_call 53; (with_reducible refine (HT1.out _).mono ?_); rintro e w2 ⟨rfl, rfl⟩))
        all_goals
          go_ret
          exact ⟨rfl, H1.out.b⟩
    · have g1 := beq_no hdn
      have HX := Lib.hid (goodB_no (nm := nm) (dl := dl) (ss := ss) (s := s) fun hg => hdn hg.dn)
      rw [HX.out]
      clear hr hdn hd hN hlen
      go_enter Tryz.func52, Tryz.ntmps52
      go_wp2_with (first
        | (go_at_call 50; (with_reducible refine (HC.out _ HB.out.b).mono ?_); rintro e w1 ⟨k, rfl, hm⟩; have H1 := Lib.hid (HB.out.on hm); clear hm; obtain ⟨d0, d1, d2⟩ := H1.out.cd; obtain ⟨c0, c1, c2, c3, c4, c5, c6, c7, c8⟩ := H1.out.cs))
      all_goals
        go_ret
        exact ⟨rfl, H1.out.b⟩
  · have HC := Lib.hid (hC0 hr)
    have HX := Lib.hid (goodB_no (nm := nm) (dl := dl) (ss := ss) (s := s) fun hg => hr hg.right)
    rw [HX.out]
    clear hr hd hN hC1 hC0 hck
    go_enter Tryz.func52, Tryz.ntmps52
    go_wp2_with (first
      | (go_at_call 50; (with_reducible refine (HC.out _ HB.out.b).mono ?_); rintro e w1 ⟨k, ev, rfl, hev, hm⟩; have H1 := Lib.hid (HB.out.on hm); clear hm; obtain ⟨d0, d1, d2⟩ := H1.out.cd; obtain ⟨c0, c1, c2, c3, c4, c5, c6, c7, c8⟩ := H1.out.cs))
    all_goals
      go_ret
      exact ⟨rfl, H1.out.b⟩
variable (now : Int)
set_option maxRecDepth 100000 in
set_option maxHeartbeats 2000000 in
theorem rcheck14_any : Calls Tryz.prog 23 #[.agg #[.string nm, .int .i64 dl, .slice A n c], .agg #[.int .i64 s.id, .string s.dn, .int .i64 s.st, .int .i64 s.ph, .int .i64 s.sp, .int .i64 s.tr, .bool s.out, .int .i64 s.at_, .int .i64 s.sk], .int .i64 now] w fun e w' => e = .returned (.int .i64 (refE nm dl ss s now)) ∧ Below w.heap.size w w' := by
  have HG := Lib.hid (fun W (hW : Below w.heap.size w W) => rgood_any nm dl A n c ss s W (hd.on hW))
  have HB := Lib.hid (ed2 (w := w) (nm := nm) (dl := dl) (A := A) (n := n) (c := c) (s := s) (Below.refl _ _))
  have HT := Lib.hid (rtick_any now)
  have HO := Lib.hid (rover_any s)
  clear hd
  by_cases hg : GoodS nm dl ss s
  · rw [goodB_yes hg] at HG
    by_cases hn : 0 ≤ now ∧ now ≤ 1099511627776
    · rw [goodN_yes hn] at HT
      cases ho : overB s with
      | true =>
        rw [refE_over hg hn ho]
        rw [ho] at HO
        clear hg hn ho
        go_enter Tryz.func23, Tryz.ntmps23
        go_wp2_with (first
          | (go_at_call 52; (with_reducible refine (HG.out _ HB.out.b).mono ?_); rintro e w1 ⟨rfl, hm⟩; have H1 := Lib.hid (HB.out.on hm); clear hm; obtain ⟨c0, c1, c2, c3, c4, c5, c6, c7, c8⟩ := H1.out.cs)
          | (go_at_call 53; (with_reducible refine (HT.out _).mono ?_); rintro e w2 ⟨rfl, rfl⟩)
          | (go_at_call 27; (with_reducible refine (HO.out _).mono ?_); rintro e w3 ⟨rfl, hm⟩; have H2 := Lib.hid (H1.out.on hm.below); clear hm))
        go_ret
        exact ⟨rfl, H2.out.b⟩
      | false =>
        rw [refE_fine hg hn ho]
        rw [ho] at HO
        clear hg hn ho
        go_enter Tryz.func23, Tryz.ntmps23
        go_wp2_with (first
          | (go_at_call 52; (with_reducible refine (HG.out _ HB.out.b).mono ?_); rintro e w1 ⟨rfl, hm⟩; have H1 := Lib.hid (HB.out.on hm); clear hm; obtain ⟨c0, c1, c2, c3, c4, c5, c6, c7, c8⟩ := H1.out.cs)
          | (go_at_call 53; (with_reducible refine (HT.out _).mono ?_); rintro e w2 ⟨rfl, rfl⟩)
          | (go_at_call 27; (with_reducible refine (HO.out _).mono ?_); rintro e w3 ⟨rfl, hm⟩; have H2 := Lib.hid (H1.out.on hm.below); clear hm))
        go_ret
        exact ⟨rfl, H2.out.b⟩
    · rw [goodN_no hn] at HT
      rw [refE_now hn]
      clear hg hn
      go_enter Tryz.func23, Tryz.ntmps23
      go_wp2_with (first
        | (go_at_call 52; (with_reducible refine (HG.out _ HB.out.b).mono ?_); rintro e w1 ⟨rfl, hm⟩; have H1 := Lib.hid (HB.out.on hm); clear hm; obtain ⟨c0, c1, c2, c3, c4, c5, c6, c7, c8⟩ := H1.out.cs)
        | (go_at_call 53; (with_reducible refine (HT.out _).mono ?_); rintro e w2 ⟨rfl, rfl⟩))
      go_ret
      exact ⟨rfl, H1.out.b⟩
  · rw [goodB_no hg] at HG
    rw [refE_bad hg]
    clear hg
    go_enter Tryz.func23, Tryz.ntmps23
    go_wp2_with (first
      | (go_at_call 52; (with_reducible refine (HG.out _ HB.out.b).mono ?_); rintro e w1 ⟨rfl, hm⟩; have H1 := Lib.hid (HB.out.on hm); clear hm; obtain ⟨c0, c1, c2, c3, c4, c5, c6, c7, c8⟩ := H1.out.cs))
    go_ret
    exact ⟨rfl, H1.out.b⟩
end
end Go.Proofs.YteejocnogpaifaaGreatDoor.Sa
