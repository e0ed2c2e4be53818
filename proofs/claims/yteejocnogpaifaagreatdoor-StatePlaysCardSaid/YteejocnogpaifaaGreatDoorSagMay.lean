/-
  What Good, refusal, refusalBut, may and May of package saga answer.
  Conditions: the definition's steps lie in memory, its names are of moderate length.
-/
import Derived.Test.YteejocnogpaifaaGreatDoorSagGood
namespace Go.Proofs.YteejocnogpaifaaGreatDoor.Sa
open Go.RowKit Go.Sort
open Go.Proofs.YteejocnogpaifaaGreatDoor.El
open Go.Proofs.YteejocnogpaifaaGreatDoor.Bo (P Made ret_int ret_bool left wait)
open Go.Proofs.YteejocnogpaifaaGreatDoor.Df

theorem goodN_yes {x : Int} (h : 0 ≤ x ∧ x ≤ 1099511627776) : Bo.goodN x = true := decide_eq_true h
theorem goodN_no {x : Int} (h : ¬ (0 ≤ x ∧ x ≤ 1099511627776)) : Bo.goodN x = false := decide_eq_false h
/-- what Check answers, of a right definition or of another -/
theorem chk_ok {nm : ByteArray} {dl : Int} {A : Option Addr} {n c : Nat} {ss : List Stp} {w : World} {f : FuncId} (h : ∀ W, Below w.heap.size w W → Calls Tryz.prog f #[.agg #[.string nm, .int .i64 dl, .slice A n c]] W (ChkPost nm dl ss W)) :
    (RightD nm dl ss → ∀ W, Below w.heap.size w W → Calls Tryz.prog f #[.agg #[.string nm, .int .i64 dl, .slice A n c]] W fun e w' => ∃ k : Int, e = .returned (.tuple #[.int .i64 k, .int .i64 0]) ∧ Below W.heap.size W w') ∧
      (¬ RightD nm dl ss → ∀ W, Below w.heap.size w W → Calls Tryz.prog f #[.agg #[.string nm, .int .i64 dl, .slice A n c]] W fun e w' => ∃ k ev : Int, e = .returned (.tuple #[.int .i64 k, .int .i64 ev]) ∧ (ev != 0) = true ∧ Below W.heap.size W w') := by
  refine ⟨fun hr W hW => (h W hW).mono fun e w' ⟨k, ev, he, hk, hb⟩ => ?_, fun hr W hW => (h W hW).mono fun e w' ⟨k, ev, he, hk, hb⟩ => ?_⟩
  · rw [(right_iff hk).2 hr] at he
    exact ⟨k, he, hb⟩
  · exact ⟨k, ev, he, by simpa using fun e0 => hr ((right_iff hk).1 e0), hb⟩
theorem names_big {ss : List Stp} (h : ∀ s ∈ ss, s.nm.size ≤ 1000000 ∧ s.pt.size ≤ 1000000) : ∀ s ∈ ss, s.nm.size ≤ 35184372088832 ∧ s.pt.size ≤ 35184372088832 := fun s hs => by have := h s hs; omega
theorem beq_yes {a b : ByteArray} (h : a = b) : (a.toList == b.toList) = true := by rw [bytes_beq]; exact decide_eq_true h
theorem beq_no {a b : ByteArray} (h : ¬ a = b) : (a.toList == b.toList) = false := by rw [bytes_beq]; exact decide_eq_false h
section
variable (nm : ByteArray) (dl : Int) (A : Option Addr) (n c : Nat) (ss : List Stp) (s : Sg) (w : World) (hd : Dn w nm A n c ss)
include hd
set_option maxRecDepth 100000 in
set_option maxHeartbeats 4000000 in
theorem good_any : Calls Tryz.prog 68 #[.agg #[.string nm, .int .i64 dl, .slice A n c], .agg #[.int .i64 s.id, .string s.dn, .int .i64 s.st, .int .i64 s.ph, .int .i64 s.sp, .int .i64 s.tr, .bool s.out, .int .i64 s.at_, .int .i64 s.sk]] w fun e w' => e = .returned (.bool (goodB nm dl ss s)) ∧ Below w.heap.size w w' := by
  have hck : ∀ W, Below w.heap.size w W → Calls Tryz.prog 64 #[.agg #[.string nm, .int .i64 dl, .slice A n c]] W (ChkPost nm dl ss W) := fun W hW =>
    check_any nm dl A c ss n W hd.en (by have := hd.len; omega) hd.cap (hd.mem.on hW) (by have := hd.nmz; omega) (names_big hd.names)
  obtain ⟨hC1, hC0⟩ := chk_ok hck
  have HB := Lib.hid (ed2 (w := w) (nm := nm) (dl := dl) (A := A) (n := n) (c := c) (s := s) (Below.refl _ _))
  have HT1 := Lib.hid (Bo.tgood_any s.st)
  have HT2 := Lib.hid (Bo.tgood_any s.at_)
  have hN := hd.en
  by_cases hr : RightD nm dl ss
  · have HC := Lib.hid (hC1 hr)
    clear hC1 hC0 hck
    have hlen := (right_all hr).1
    have HG : Hid (0 ≤ s.sp → s.sp < n → ∀ W, Below w.heap.size w W → Calls Tryz.prog 96 #[.agg #[.string nm, .int .i64 dl, .slice A n c], .agg #[.int .i64 s.id, .string s.dn, .int .i64 s.st, .int .i64 s.ph, .int .i64 s.sp, .int .i64 s.tr, .bool s.out, .int .i64 s.at_, .int .i64 s.sk]] W fun e w' => e = .returned (.bool (decide (TriesOk (planOf ss s) s))) ∧ Below W.heap.size W w') := Lib.hid fun h0 h1 W hW =>
      goodTries_any nm dl A n c ss s W (hd.on hW) h0 h1 (plan_at hr h0 (by omega))
    have HR := Lib.hid hr
    by_cases hdn : s.dn = nm
    · have g1 := beq_yes hdn
      have HDN := Lib.hid hdn
      by_cases hst : 0 ≤ s.st ∧ s.st ≤ 1099511627776
      · rw [goodN_yes hst] at HT1
        have HST := Lib.hid hst
        by_cases hat : 0 ≤ s.at_ ∧ s.at_ ≤ 1099511627776
        · rw [goodN_yes hat] at HT2
          have HAT := Lib.hid hat
          have hn32 : n ≤ 32 := by omega
          have HLN : Hid (n = ss.length) := Lib.hid hN
          clear hr hdn hst hat hd hN hlen
          go_enter Tryz.func68, Tryz.ntmps68
          go_wp2_with (first
            | (go_at_call 64; (with_reducible refine (HC.out _ HB.out.b).mono ?_); rintro e w1 ⟨k, rfl, hm⟩; have H1 := Lib.hid (HB.out.on hm); clear hm; obtain ⟨d0, d1, d2⟩ := H1.out.cd; obtain ⟨c0, c1, c2, c3, c4, c5, c6, c7, c8⟩ := H1.out.cs)
            | (go_at_call 36; (with_reducible refine (HT1.out _).mono ?_); rintro e w2 ⟨rfl, rfl⟩)
            | (go_at_call 36; (with_reducible refine (HT2.out _).mono ?_); rintro e w2 ⟨rfl, rfl⟩)
            | (go_at_call 96; (with_reducible refine (HG.out (by omega) (by omega) _ H1.out.b).mono ?_); rintro e w3 ⟨rfl, hm⟩; have H3 := Lib.hid (H1.out.on hm); clear hm))
          all_goals
            go_ret
            first
              | (refine ⟨ret_bool (goodB_no fun hg => ?_).symm, H1.out.b⟩
                 have q1 := hg.fld.sp; have q2 := hg.fld.id; have q3 := hg.fld.sk; have q4 := hg.fld.tr; have q5 := HLN.out
                 omega)
              | (refine ⟨ret_bool ?_, H3.out.b⟩
                 unfold goodB
                 rw [Bool.eq_iff_iff, decide_eq_true_eq, decide_eq_true_eq]
                 have q5 := HLN.out
                 exact ⟨fun ht => ⟨HR.out, HDN.out, ⟨by omega, by omega, HST.out, HAT.out, by omega, by omega⟩, ht⟩, fun hg => hg.tries⟩)
        · rw [goodN_no hat] at HT2
          have HX := Lib.hid (goodB_no (nm := nm) (dl := dl) (ss := ss) (s := s) fun hg => hat hg.fld.at_)
          rw [HX.out]
          clear hr hdn hst hat hd hN hlen
          go_enter Tryz.func68, Tryz.ntmps68
          go_wp2_with (first
            | (go_at_call 64; (with_reducible refine (HC.out _ HB.out.b).mono ?_); rintro e w1 ⟨k, rfl, hm⟩; have H1 := Lib.hid (HB.out.on hm); clear hm; obtain ⟨d0, d1, d2⟩ := H1.out.cd; obtain ⟨c0, c1, c2, c3, c4, c5, c6, c7, c8⟩ := H1.out.cs)
            | (go_at_call 36; (with_reducible refine (HT1.out _).mono ?_); rintro e w2 ⟨rfl, rfl⟩)
            | (go_at_call 36; (with_reducible refine (HT2.out _).mono ?_); rintro e w2 ⟨rfl, rfl⟩))
          all_goals
            go_ret
            exact ⟨rfl, H1.out.b⟩
      · rw [goodN_no hst] at HT1
        have HX := Lib.hid (goodB_no (nm := nm) (dl := dl) (ss := ss) (s := s) fun hg => hst hg.fld.st)
        rw [HX.out]
        clear hr hdn hst hd hN hlen
        go_enter Tryz.func68, Tryz.ntmps68
        go_wp2_with (first
          | (go_at_call 64; (with_reducible refine (HC.out _ HB.out.b).mono ?_); rintro e w1 ⟨k, rfl, hm⟩; have H1 := Lib.hid (HB.out.on hm); clear hm; obtain ⟨d0, d1, d2⟩ := H1.out.cd; obtain ⟨c0, c1, c2, c3, c4, c5, c6, c7, c8⟩ := H1.out.cs)
          | (go_at_call 36; (with_reducible refine (HT1.out _).mono ?_); rintro e w2 ⟨rfl, rfl⟩))
        all_goals
          go_ret
          exact ⟨rfl, H1.out.b⟩
    · have g1 := beq_no hdn
      have HX := Lib.hid (goodB_no (nm := nm) (dl := dl) (ss := ss) (s := s) fun hg => hdn hg.dn)
      rw [HX.out]
      clear hr hdn hd hN hlen
      go_enter Tryz.func68, Tryz.ntmps68
      go_wp2_with (first
        | (go_at_call 64; (with_reducible refine (HC.out _ HB.out.b).mono ?_); rintro e w1 ⟨k, rfl, hm⟩; have H1 := Lib.hid (HB.out.on hm); clear hm; obtain ⟨d0, d1, d2⟩ := H1.out.cd; obtain ⟨c0, c1, c2, c3, c4, c5, c6, c7, c8⟩ := H1.out.cs))
      all_goals
        go_ret
        exact ⟨rfl, H1.out.b⟩
  · have HC := Lib.hid (hC0 hr)
    have HX := Lib.hid (goodB_no (nm := nm) (dl := dl) (ss := ss) (s := s) fun hg => hr hg.right)
    rw [HX.out]
    clear hr hd hN hC1 hC0 hck
    go_enter Tryz.func68, Tryz.ntmps68
    go_wp2_with (first
      | (go_at_call 64; (with_reducible refine (HC.out _ HB.out.b).mono ?_); rintro e w1 ⟨k, ev, rfl, hev, hm⟩; have H1 := Lib.hid (HB.out.on hm); clear hm; obtain ⟨d0, d1, d2⟩ := H1.out.cd; obtain ⟨c0, c1, c2, c3, c4, c5, c6, c7, c8⟩ := H1.out.cs))
    all_goals
      go_ret
      exact ⟨rfl, H1.out.b⟩
variable (now : Int)
set_option maxRecDepth 100000 in
set_option maxHeartbeats 2000000 in
theorem refusal_any : Calls Tryz.prog 103 #[.agg #[.string nm, .int .i64 dl, .slice A n c], .agg #[.int .i64 s.id, .string s.dn, .int .i64 s.st, .int .i64 s.ph, .int .i64 s.sp, .int .i64 s.tr, .bool s.out, .int .i64 s.at_, .int .i64 s.sk], .int .i64 now] w fun e w' => e = .returned (.int .i64 (refE nm dl ss s now)) ∧ Below w.heap.size w w' := by
  have HG := Lib.hid (fun W (hW : Below w.heap.size w W) => good_any nm dl A n c ss s W (hd.on hW))
  have HB := Lib.hid (ed2 (w := w) (nm := nm) (dl := dl) (A := A) (n := n) (c := c) (s := s) (Below.refl _ _))
  have HT := Lib.hid (Bo.tgood_any now)
  have HO := Lib.hid (over_any s)
  clear hd
  by_cases hg : GoodS nm dl ss s
  · rw [goodB_yes hg] at HG
    by_cases hn : 0 ≤ now ∧ now ≤ 1099511627776
    · rw [goodN_yes hn] at HT
      cases ho : overB s with
      | true =>
        rw [refE_over hg hn ho]
        rw [ho] at HO
        clear hg hn ho
        go_enter Tryz.func103, Tryz.ntmps103
        go_wp2_with (first
          | (go_at_call 68; (with_reducible refine (HG.out _ HB.out.b).mono ?_); rintro e w1 ⟨rfl, hm⟩; have H1 := Lib.hid (HB.out.on hm); clear hm; obtain ⟨c0, c1, c2, c3, c4, c5, c6, c7, c8⟩ := H1.out.cs)
          | (go_at_call 36; (with_reducible refine (HT.out _).mono ?_); rintro e w2 ⟨rfl, rfl⟩)
          | (go_at_call 47; (with_reducible refine (HO.out _).mono ?_); rintro e w3 ⟨rfl, hm⟩; have H2 := Lib.hid (H1.out.on hm.below); clear hm))
        go_ret
        exact ⟨rfl, H2.out.b⟩
      | false =>
        rw [refE_fine hg hn ho]
        rw [ho] at HO
        clear hg hn ho
        go_enter Tryz.func103, Tryz.ntmps103
        go_wp2_with (first
          | (go_at_call 68; (with_reducible refine (HG.out _ HB.out.b).mono ?_); rintro e w1 ⟨rfl, hm⟩; have H1 := Lib.hid (HB.out.on hm); clear hm; obtain ⟨c0, c1, c2, c3, c4, c5, c6, c7, c8⟩ := H1.out.cs)
          | (go_at_call 36; (with_reducible refine (HT.out _).mono ?_); rintro e w2 ⟨rfl, rfl⟩)
          | (go_at_call 47; (with_reducible refine (HO.out _).mono ?_); rintro e w3 ⟨rfl, hm⟩; have H2 := Lib.hid (H1.out.on hm.below); clear hm))
        go_ret
        exact ⟨rfl, H2.out.b⟩
    · rw [goodN_no hn] at HT
      rw [refE_now hn]
      clear hg hn
      go_enter Tryz.func103, Tryz.ntmps103
      go_wp2_with (first
        | (go_at_call 68; (with_reducible refine (HG.out _ HB.out.b).mono ?_); rintro e w1 ⟨rfl, hm⟩; have H1 := Lib.hid (HB.out.on hm); clear hm; obtain ⟨c0, c1, c2, c3, c4, c5, c6, c7, c8⟩ := H1.out.cs)
        | (go_at_call 36; (with_reducible refine (HT.out _).mono ?_); rintro e w2 ⟨rfl, rfl⟩))
      go_ret
      exact ⟨rfl, H1.out.b⟩
  · rw [goodB_no hg] at HG
    rw [refE_bad hg]
    clear hg
    go_enter Tryz.func103, Tryz.ntmps103
    go_wp2_with (first
      | (go_at_call 68; (with_reducible refine (HG.out _ HB.out.b).mono ?_); rintro e w1 ⟨rfl, hm⟩; have H1 := Lib.hid (HB.out.on hm); clear hm; obtain ⟨c0, c1, c2, c3, c4, c5, c6, c7, c8⟩ := H1.out.cs))
    go_ret
    exact ⟨rfl, H1.out.b⟩
/-- why nothing is done that is done in one phase alone -/
def butE (nm : ByteArray) (dl : Int) (ss : List Stp) (s : Sg) (ph now : Int) : Int := if refE nm dl ss s now = 0 ∧ s.ph ≠ ph then 9 else refE nm dl ss s now
set_option maxRecDepth 100000 in
set_option maxHeartbeats 2000000 in
theorem but_any (ph : Int) : Calls Tryz.prog 110 #[.int .i64 ph, .agg #[.string nm, .int .i64 dl, .slice A n c], .agg #[.int .i64 s.id, .string s.dn, .int .i64 s.st, .int .i64 s.ph, .int .i64 s.sp, .int .i64 s.tr, .bool s.out, .int .i64 s.at_, .int .i64 s.sk], .int .i64 now] w fun e w' => e = .returned (.int .i64 (butE nm dl ss s ph now)) ∧ Below w.heap.size w w' := by
  have HG := Lib.hid (fun W (hW : Below w.heap.size w W) => refusal_any nm dl A n c ss s W (hd.on hW) now)
  have HB := Lib.hid (ed2 (w := w) (nm := nm) (dl := dl) (A := A) (n := n) (c := c) (s := s) (Below.refl _ _))
  have HX : Hid (butE nm dl ss s ph now = if refE nm dl ss s now = 0 ∧ s.ph ≠ ph then 9 else refE nm dl ss s now) := Lib.hid rfl
  generalize butE nm dl ss s ph now = X at HX ⊢
  generalize refE nm dl ss s now = r at HX HG
  clear hd
  go_enter Tryz.func110, Tryz.ntmps110
  go_wp2_with (first
    | (go_at_call 103; (with_reducible refine (HG.out _ HB.out.b).mono ?_); rintro e w1 ⟨rfl, hm⟩; have H1 := Lib.hid (HB.out.on hm); clear hm; obtain ⟨c0, c1, c2, c3, c4, c5, c6, c7, c8⟩ := H1.out.cs))
  all_goals
    go_ret
    refine ⟨ret_int ?_, H1.out.b⟩
    have hx := HX.out
    rw [hx]
    split
    · first | rfl | omega | simp_all
    · first | rfl | omega | simp_all
end
section
variable {dl now : Int} {ss : List Stp} {s : Sg}
theorem mayC_0 (h : s.ph = 0) : mayC dl ss s now = (decide (now < endT dl s.st) && (!s.out && (decide (s.at_ ≤ now) && decide (s.tr ≤ (planOf ss s).r)))) := by
  rw [Bool.eq_iff_iff]
  simp [mayC, h]
theorem mayC_1 (h : s.ph = 1) : mayC dl ss s now = (!s.out && (decide (s.at_ ≤ now) && decide (s.tr ≤ (planOf ss s).r))) := by
  rw [Bool.eq_iff_iff]
  simp [mayC, h]
theorem mayC_2 (h : ¬ s.ph = 0) (h1 : ¬ s.ph = 1) : mayC dl ss s now = false := by
  unfold mayC
  exact decide_eq_false (by omega)
end
section
variable (nm : ByteArray) (dl : Int) (A : Option Addr) (n c : Nat) (ss : List Stp) (s : Sg) (w : World) (hd : Dn w nm A n c ss) (now : Int)
include hd
set_option maxRecDepth 100000 in
set_option maxHeartbeats 4000000 in
theorem may_any (hg : GoodS nm dl ss s) (ht : s.tr ≤ 9223372036854775807) : Calls Tryz.prog 104 #[.agg #[.string nm, .int .i64 dl, .slice A n c], .agg #[.int .i64 s.id, .string s.dn, .int .i64 s.st, .int .i64 s.ph, .int .i64 s.sp, .int .i64 s.tr, .bool s.out, .int .i64 s.at_, .int .i64 s.sk], .int .i64 now] w fun e w' => e = .returned (.bool (mayC dl ss s now)) ∧ Below w.heap.size w w' := by
  have hsp := hg.fld.sp
  have hN := hd.en
  have HT := Lib.hid (fun W (hW : Below w.heap.size w W) => tries_any nm dl A n c ss s W hd.en (hd.mem.on hW) hsp.1 (by omega) (good_plan hg) ⟨hg.fld.tr, ht⟩)
  have HB := Lib.hid (ed2 (w := w) (nm := nm) (dl := dl) (A := A) (n := n) (c := c) (s := s) (Below.refl _ _))
  have HE := Lib.hid (fun W => end_any nm dl A n c s.st W)
  by_cases p0 : s.ph = 0
  · rw [mayC_0 p0]
    have g0 : (s.ph == 0) = true := by simpa using p0
    generalize endT dl s.st = T at HE ⊢
    generalize (planOf ss s).r = r at HT ⊢
    clear hd hg ht hsp hN p0
    cases ho : s.out
    all_goals
      rw [ho] at HT HB
      go_enter Tryz.func104, Tryz.ntmps104
      go_wp2_with (first
        | (go_at_call 111; (with_reducible refine (HE.out _).mono ?_); rintro e w1 ⟨rfl, hm⟩; have H1 := Lib.hid (HB.out.on hm.below); clear hm; obtain ⟨d0, d1, d2⟩ := H1.out.cd; obtain ⟨c0, c1, c2, c3, c4, c5, c6, c7, c8⟩ := H1.out.cs)
        | (go_at_call 122; (with_reducible refine (HT.out _ H1.out.b).mono ?_); rintro e w2 ⟨rfl, hm⟩; have H2 := Lib.hid (H1.out.on hm.below); clear hm))
      all_goals
        go_ret
        refine ⟨ret_bool ?_, by first | exact H2.out.b | exact H1.out.b⟩
        clear HT HB HE H1
        (try clear H2)
        first | (simp_all; done) | (simp_all; omega)
  · have g0 : (s.ph == 0) = false := by simpa using p0
    by_cases p1 : s.ph = 1
    · rw [mayC_1 p1]
      have g1 : (s.ph == 1) = true := by simpa using p1
      generalize (planOf ss s).r = r at HT ⊢
      clear hd hg ht hsp hN p0 p1
      cases ho : s.out
      all_goals
        rw [ho] at HT HB
        go_enter Tryz.func104, Tryz.ntmps104
        go_wp2_with (first
          | (go_at_call 122; (with_reducible refine (HT.out _ HB.out.b).mono ?_); rintro e w2 ⟨rfl, hm⟩; have H2 := Lib.hid (HB.out.on hm.below); clear hm))
        all_goals
          go_ret
          refine ⟨ret_bool ?_, by first | exact H2.out.b | exact HB.out.b⟩
          clear HT HB HE
          (try clear H2)
          first | (simp_all; done) | (simp_all; omega)
    · rw [mayC_2 p0 p1]
      have g1 : (s.ph == 1) = false := by simpa using p1
      clear hd hg ht hsp hN p0 p1 HT HE
      go_enter Tryz.func104, Tryz.ntmps104
      go_wp2
      go_ret
      exact ⟨rfl, HB.out.b⟩
end
end Go.Proofs.YteejocnogpaifaaGreatDoor.Sa
