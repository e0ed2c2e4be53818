/-
  What Due of package saga answers: the least tick at which something is due, and whether there is one.
  Conditions: the definition's steps lie in memory, its names are of moderate length.
-/
import Derived.Test.YtkmldgcnbjjbcaaDoorSagMay
import Derived.Test.YtkmldgcnbjjbcaaDoorSagActs
namespace Go.Proofs.YtkmldgcnbjjbcaaDoor.Sa
open Go.RowKit Go.Sort
open Go.Proofs.YtkmldgcnbjjbcaaDoor.El
open Go.Proofs.YtkmldgcnbjjbcaaDoor.Bo (P Made ret_int ret_bool left wait)
open Go.Proofs.YtkmldgcnbjjbcaaDoor.Df

theorem ret_due {a b : Int} {x y : Bool} (h : a = b) (h' : x = y) : Ending.returned (.tuple #[.int .i64 a, .bool x]) = .returned (.tuple #[.int .i64 b, .bool y]) := by rw [h, h']
section
variable {nm : ByteArray} {dl : Int} {ss : List Stp} {s : Sg} {N : Int}
theorem due_in (hg : GoodS nm dl ss s) (hN : dueN dl ss s = N) (hr : 0 ≤ N ∧ N ≤ 1099511627776) : dueI nm dl ss s = N ∧ dueB nm dl ss s = true := by
  subst hN
  unfold dueI dueB
  rw [if_pos ⟨hg, hr⟩, decide_eq_true ⟨hg, hr⟩]
  exact ⟨rfl, rfl⟩
theorem due_out (hN : dueN dl ss s = N) (hr : ¬ (0 ≤ N ∧ N ≤ 1099511627776)) : dueI nm dl ss s = 0 ∧ dueB nm dl ss s = false := by
  subst hN
  unfold dueI dueB
  rw [if_neg (fun h => hr h.2), decide_eq_false (fun h => hr h.2)]
  exact ⟨rfl, rfl⟩
theorem due_bad (hg : ¬ GoodS nm dl ss s) : dueI nm dl ss s = 0 ∧ dueB nm dl ss s = false := by
  unfold dueI dueB
  rw [if_neg (fun h => hg h.1), decide_eq_false (fun h => hg h.1)]
  exact ⟨rfl, rfl⟩
end
section
variable (nm : ByteArray) (dl : Int) (A : Option Addr) (n c : Nat) (ss : List Stp) (s : Sg) (w : World) (hd : Dn w nm A n c ss)
include hd
set_option maxRecDepth 100000 in
set_option maxHeartbeats 8000000 in
theorem due_any (ht : s.tr ≤ 9223372036854775807) : Calls Tryd.prog 29 #[.agg #[.string nm, .int .i64 dl, .slice A n c], .agg #[.int .i64 s.id, .string s.dn, .int .i64 s.st, .int .i64 s.ph, .int .i64 s.sp, .int .i64 s.tr, .bool s.out, .int .i64 s.at_, .int .i64 s.sk]] w fun e w' => e = .returned (.tuple #[.int .i64 (dueI nm dl ss s), .bool (dueB nm dl ss s)]) ∧ Below w.heap.size w w' := by
  have HG := Lib.hid (fun W (hW : Below w.heap.size w W) => good_any nm dl A n c ss s W (hd.on hW))
  have HB := Lib.hid (ed2 (w := w) (nm := nm) (dl := dl) (A := A) (n := n) (c := c) (s := s) (Below.refl _ _))
  by_cases hg : GoodS nm dl ss s
  · rw [goodB_yes hg] at HG
    have hsp := hg.fld.sp
    have hN := hd.en
    have HT := Lib.hid (fun W (hW : Below w.heap.size w W) => tries_any nm dl A n c ss s W hd.en (hd.mem.on hW) hsp.1 (by omega) (good_plan hg) ⟨hg.fld.tr, ht⟩)
    have HE := Lib.hid (fun W => end_any nm dl A n c s.st W)
    have hat := hg.fld.at_
    have hei := end_in (dl := dl) (st := s.st)
    have HN : Hid (dueN dl ss s = if (s.ph = 0 ∨ s.ph = 1) ∧ (s.out = true ∨ s.tr ≤ (planOf ss s).r) then min (endI dl s) s.at_ else endI dl s) := Lib.hid rfl
    have HEI : Hid (endI dl s = if s.ph = 0 then endT dl s.st else 1099511627777) := Lib.hid rfl
    generalize endI dl s = E at *
    generalize hTt : endT dl s.st = T at *
    generalize hrr : (planOf ss s).r = r at *
    clear hTt hrr
    clear hd ht hsp hN
    by_cases hp : s.ph = 0
    · have g0 : (s.ph == 0) = true := by simpa using hp
      cases ho : s.out with
      | true =>
        have hX := due_in hg (N := (min (T : Int) s.at_)) (by rw [HN.out, if_pos ⟨.inl hp, .inl ho⟩, HEI.out, if_pos hp]) (by omega)
        have HK := Lib.hid (Bo.tgood_any (min (T : Int) s.at_))
        rw [goodN_yes (x := (min (T : Int) s.at_)) (by omega)] at HK
        rw [hX.1, hX.2]
        clear hX HN HEI hg hat hei hp
        rw [ho] at HG HB
        clear HT
        have HO := Lib.hid ho
        clear ho
        go_enter Tryd.func29, Tryd.ntmps29
        go_wp2_with (first
          | (go_at_call 57; (with_reducible refine (HG.out _ HB.out.b).mono ?_); rintro e w1 ⟨rfl, hm⟩; have H1 := Lib.hid (HB.out.on hm); clear hm; obtain ⟨d0, d1, d2⟩ := H1.out.cd; obtain ⟨c0, c1, c2, c3, c4, c5, c6, c7, c8⟩ := H1.out.cs; rw [HO.out] at c6)
          | (go_at_call 15; (with_reducible refine (HE.out _).mono ?_); rintro e w2 ⟨rfl, hm⟩; have H2 := Lib.hid (H1.out.on hm.below); clear hm; obtain ⟨d0, d1, d2⟩ := H2.out.cd; obtain ⟨c0, c1, c2, c3, c4, c5, c6, c7, c8⟩ := H2.out.cs; rw [HO.out] at c6)
          | (go_at_call 37; (with_reducible refine (HK.out _).mono ?_); rintro e w4 ⟨rfl, rfl⟩))
        (try simp only [Exit.inBlock, Exit.then])
        exact bodyPost_ret (results_tmp2 rfl _ _ _) rfl ⟨rfl, H2.out.b⟩
      | false =>
        by_cases htr : s.tr ≤ r
        · have hX := due_in hg (N := (min (T : Int) s.at_)) (by rw [HN.out, if_pos ⟨.inl hp, .inr htr⟩, HEI.out, if_pos hp]) (by omega)
          have HK := Lib.hid (Bo.tgood_any (min (T : Int) s.at_))
          rw [goodN_yes (x := (min (T : Int) s.at_)) (by omega)] at HK
          rw [hX.1, hX.2]
          clear hX HN HEI hg hat hei hp
          rw [decide_eq_true htr] at HT
          rw [ho] at HG HB HT
          have HO := Lib.hid ho
          clear ho
          clear htr
          go_enter Tryd.func29, Tryd.ntmps29
          go_wp2_with (first
            | (go_at_call 57; (with_reducible refine (HG.out _ HB.out.b).mono ?_); rintro e w1 ⟨rfl, hm⟩; have H1 := Lib.hid (HB.out.on hm); clear hm; obtain ⟨d0, d1, d2⟩ := H1.out.cd; obtain ⟨c0, c1, c2, c3, c4, c5, c6, c7, c8⟩ := H1.out.cs; rw [HO.out] at c6)
            | (go_at_call 15; (with_reducible refine (HE.out _).mono ?_); rintro e w2 ⟨rfl, hm⟩; have H2 := Lib.hid (H1.out.on hm.below); clear hm; obtain ⟨d0, d1, d2⟩ := H2.out.cd; obtain ⟨c0, c1, c2, c3, c4, c5, c6, c7, c8⟩ := H2.out.cs; rw [HO.out] at c6)
            | (go_at_call 58; (with_reducible refine (HT.out _ H2.out.b).mono ?_); rintro e w3 ⟨rfl, hm⟩; have H3 := Lib.hid (H2.out.on hm.below); clear hm; obtain ⟨d0, d1, d2⟩ := H3.out.cd; obtain ⟨c0, c1, c2, c3, c4, c5, c6, c7, c8⟩ := H3.out.cs; rw [HO.out] at c6)
            | (go_at_call 37; (with_reducible refine (HK.out _).mono ?_); rintro e w4 ⟨rfl, rfl⟩))
          (try simp only [Exit.inBlock, Exit.then])
          exact bodyPost_ret (results_tmp2 rfl _ _ _) rfl ⟨rfl, H3.out.b⟩
        · have hdn : dueN dl ss s = T := by rw [HN.out, if_neg (fun e => e.2.elim (fun e => by rw [ho] at e; cases e) htr), HEI.out, if_pos hp]
          by_cases hr : 0 ≤ T ∧ T ≤ 1099511627776
          · have hX := due_in hg hdn hr
            have HK := Lib.hid (Bo.tgood_any T)
            rw [goodN_yes hr] at HK
            rw [hX.1, hX.2]
            clear hX hdn HN HEI hg hat hei hp
            rw [decide_eq_false htr] at HT
            rw [ho] at HG HB HT
            have HO := Lib.hid ho
            clear ho htr
            go_enter Tryd.func29, Tryd.ntmps29
            go_wp2_with (first
              | (go_at_call 57; (with_reducible refine (HG.out _ HB.out.b).mono ?_); rintro e w1 ⟨rfl, hm⟩; have H1 := Lib.hid (HB.out.on hm); clear hm; obtain ⟨d0, d1, d2⟩ := H1.out.cd; obtain ⟨c0, c1, c2, c3, c4, c5, c6, c7, c8⟩ := H1.out.cs; rw [HO.out] at c6)
              | (go_at_call 15; (with_reducible refine (HE.out _).mono ?_); rintro e w2 ⟨rfl, hm⟩; have H2 := Lib.hid (H1.out.on hm.below); clear hm; obtain ⟨d0, d1, d2⟩ := H2.out.cd; obtain ⟨c0, c1, c2, c3, c4, c5, c6, c7, c8⟩ := H2.out.cs; rw [HO.out] at c6)
              | (go_at_call 58; (with_reducible refine (HT.out _ H2.out.b).mono ?_); rintro e w3 ⟨rfl, hm⟩; have H3 := Lib.hid (H2.out.on hm.below); clear hm; obtain ⟨d0, d1, d2⟩ := H3.out.cd; obtain ⟨c0, c1, c2, c3, c4, c5, c6, c7, c8⟩ := H3.out.cs; rw [HO.out] at c6)
              | (go_at_call 37; (with_reducible refine (HK.out _).mono ?_); rintro e w4 ⟨rfl, rfl⟩))
            (try simp only [Exit.inBlock, Exit.then])
            exact bodyPost_ret (results_tmp2 rfl _ _ _) rfl ⟨rfl, H3.out.b⟩
          · have hX := due_out (nm := nm) hdn hr
            have HK := Lib.hid (Bo.tgood_any T)
            rw [goodN_no hr] at HK
            rw [hX.1, hX.2]
            clear hX hdn HN HEI hg hat hei hp
            rw [decide_eq_false htr] at HT
            rw [ho] at HG HB HT
            have HO := Lib.hid ho
            clear ho htr
            go_enter Tryd.func29, Tryd.ntmps29
            go_wp2_with (first
              | (go_at_call 57; (with_reducible refine (HG.out _ HB.out.b).mono ?_); rintro e w1 ⟨rfl, hm⟩; have H1 := Lib.hid (HB.out.on hm); clear hm; obtain ⟨d0, d1, d2⟩ := H1.out.cd; obtain ⟨c0, c1, c2, c3, c4, c5, c6, c7, c8⟩ := H1.out.cs; rw [HO.out] at c6)
              | (go_at_call 15; (with_reducible refine (HE.out _).mono ?_); rintro e w2 ⟨rfl, hm⟩; have H2 := Lib.hid (H1.out.on hm.below); clear hm; obtain ⟨d0, d1, d2⟩ := H2.out.cd; obtain ⟨c0, c1, c2, c3, c4, c5, c6, c7, c8⟩ := H2.out.cs; rw [HO.out] at c6)
              | (go_at_call 58; (with_reducible refine (HT.out _ H2.out.b).mono ?_); rintro e w3 ⟨rfl, hm⟩; have H3 := Lib.hid (H2.out.on hm.below); clear hm; obtain ⟨d0, d1, d2⟩ := H3.out.cd; obtain ⟨c0, c1, c2, c3, c4, c5, c6, c7, c8⟩ := H3.out.cs; rw [HO.out] at c6)
              | (go_at_call 37; (with_reducible refine (HK.out _).mono ?_); rintro e w4 ⟨rfl, rfl⟩))
            (try simp only [Exit.inBlock, Exit.then])
            exact bodyPost_ret (results_tmp2 rfl _ _ _) rfl ⟨rfl, H3.out.b⟩
    · have g0 : (s.ph == 0) = false := by simpa using hp
      by_cases hq : s.ph = 1
      · have g1 : (s.ph == 1) = true := by simpa using hq
        have hp0 := hp
        clear hp
        have hp := hq
        clear hq
        cases ho : s.out with
        | true =>
          have hX := due_in hg (N := (min (1099511627777 : Int) s.at_)) (by rw [HN.out, if_pos ⟨.inr hp, .inl ho⟩, HEI.out, if_neg (by omega)]) (by omega)
          have HK := Lib.hid (Bo.tgood_any (min (1099511627777 : Int) s.at_))
          rw [goodN_yes (x := (min (1099511627777 : Int) s.at_)) (by omega)] at HK
          rw [hX.1, hX.2]
          clear hX HN HEI hg hat hei hp hp0
          rw [ho] at HG HB
          clear HT
          have HO := Lib.hid ho
          clear ho
          go_enter Tryd.func29, Tryd.ntmps29
          go_wp2_with (first
            | (go_at_call 57; (with_reducible refine (HG.out _ HB.out.b).mono ?_); rintro e w1 ⟨rfl, hm⟩; have H1 := Lib.hid (HB.out.on hm); clear hm; obtain ⟨d0, d1, d2⟩ := H1.out.cd; obtain ⟨c0, c1, c2, c3, c4, c5, c6, c7, c8⟩ := H1.out.cs; rw [HO.out] at c6)
            | (go_at_call 37; (with_reducible refine (HK.out _).mono ?_); rintro e w4 ⟨rfl, rfl⟩))
          (try simp only [Exit.inBlock, Exit.then])
          exact bodyPost_ret (results_tmp2 rfl _ _ _) rfl ⟨rfl, H1.out.b⟩
        | false =>
          by_cases htr : s.tr ≤ r
          · have hX := due_in hg (N := (min (1099511627777 : Int) s.at_)) (by rw [HN.out, if_pos ⟨.inr hp, .inr htr⟩, HEI.out, if_neg (by omega)]) (by omega)
            have HK := Lib.hid (Bo.tgood_any (min (1099511627777 : Int) s.at_))
            rw [goodN_yes (x := (min (1099511627777 : Int) s.at_)) (by omega)] at HK
            rw [hX.1, hX.2]
            clear hX HN HEI hg hat hei hp hp0
            rw [decide_eq_true htr] at HT
            rw [ho] at HG HB HT
            have HO := Lib.hid ho
            clear ho
            clear htr
            go_enter Tryd.func29, Tryd.ntmps29
            go_wp2_with (first
              | (go_at_call 57; (with_reducible refine (HG.out _ HB.out.b).mono ?_); rintro e w1 ⟨rfl, hm⟩; have H1 := Lib.hid (HB.out.on hm); clear hm; obtain ⟨d0, d1, d2⟩ := H1.out.cd; obtain ⟨c0, c1, c2, c3, c4, c5, c6, c7, c8⟩ := H1.out.cs; rw [HO.out] at c6)
              | (go_at_call 58; (with_reducible refine (HT.out _ H1.out.b).mono ?_); rintro e w3 ⟨rfl, hm⟩; have H3 := Lib.hid (H1.out.on hm.below); clear hm; obtain ⟨d0, d1, d2⟩ := H3.out.cd; obtain ⟨c0, c1, c2, c3, c4, c5, c6, c7, c8⟩ := H3.out.cs; rw [HO.out] at c6)
              | (go_at_call 37; (with_reducible refine (HK.out _).mono ?_); rintro e w4 ⟨rfl, rfl⟩))
            (try simp only [Exit.inBlock, Exit.then])
            exact bodyPost_ret (results_tmp2 rfl _ _ _) rfl ⟨rfl, H3.out.b⟩
          · have hdn : dueN dl ss s = 1099511627777 := by rw [HN.out, if_neg (fun e => e.2.elim (fun e => by rw [ho] at e; cases e) htr), HEI.out, if_neg (by omega)]
            have hX := due_out (nm := nm) hdn (by omega)
            have HK := Lib.hid (Bo.tgood_any 1099511627777)
            rw [goodN_no (x := 1099511627777) (by omega)] at HK
            rw [hX.1, hX.2]
            clear hX hdn HN HEI hg hat hei hp hp0
            rw [decide_eq_false htr] at HT
            rw [ho] at HG HB HT
            have HO := Lib.hid ho
            clear ho htr
            go_enter Tryd.func29, Tryd.ntmps29
            go_wp2_with (first
              | (go_at_call 57; (with_reducible refine (HG.out _ HB.out.b).mono ?_); rintro e w1 ⟨rfl, hm⟩; have H1 := Lib.hid (HB.out.on hm); clear hm; obtain ⟨d0, d1, d2⟩ := H1.out.cd; obtain ⟨c0, c1, c2, c3, c4, c5, c6, c7, c8⟩ := H1.out.cs; rw [HO.out] at c6)
              | (go_at_call 58; (with_reducible refine (HT.out _ H1.out.b).mono ?_); rintro e w3 ⟨rfl, hm⟩; have H3 := Lib.hid (H1.out.on hm.below); clear hm; obtain ⟨d0, d1, d2⟩ := H3.out.cd; obtain ⟨c0, c1, c2, c3, c4, c5, c6, c7, c8⟩ := H3.out.cs; rw [HO.out] at c6)
              | (go_at_call 37; (with_reducible refine (HK.out _).mono ?_); rintro e w4 ⟨rfl, rfl⟩))
            (try simp only [Exit.inBlock, Exit.then])
            exact bodyPost_ret (results_tmp2 rfl _ _ _) rfl ⟨rfl, H3.out.b⟩
      · have g1 : (s.ph == 1) = false := by simpa using hq
        have hdn : dueN dl ss s = 1099511627777 := by rw [HN.out, if_neg (fun e => e.1.elim hp hq), HEI.out, if_neg hp]
        have hX := due_out (nm := nm) hdn (by omega)
        have HK := Lib.hid (Bo.tgood_any 1099511627777)
        rw [goodN_no (x := 1099511627777) (by omega)] at HK
        rw [hX.1, hX.2]
        clear hX hdn HN HEI hg hat hei hp hq HT HE
        go_enter Tryd.func29, Tryd.ntmps29
        go_wp2_with (first
          | (go_at_call 57; (with_reducible refine (HG.out _ HB.out.b).mono ?_); rintro e w1 ⟨rfl, hm⟩; have H1 := Lib.hid (HB.out.on hm); clear hm; obtain ⟨d0, d1, d2⟩ := H1.out.cd; obtain ⟨c0, c1, c2, c3, c4, c5, c6, c7, c8⟩ := H1.out.cs)
          | (go_at_call 37; (with_reducible refine (HK.out _).mono ?_); rintro e w4 ⟨rfl, rfl⟩))
        (try simp only [Exit.inBlock, Exit.then])
        exact bodyPost_ret (results_tmp2 rfl _ _ _) rfl ⟨rfl, H1.out.b⟩
  · rw [goodB_no hg] at HG
    have hX := due_bad hg
    rw [hX.1, hX.2]
    clear hX hg hd ht
    go_enter Tryd.func29, Tryd.ntmps29
    go_wp2_with (go_at_call 57; (with_reducible refine (HG.out _ HB.out.b).mono ?_); rintro e w1 ⟨rfl, hm⟩; have H1 := Lib.hid (HB.out.on hm); clear hm; obtain ⟨d0, d1, d2⟩ := H1.out.cd; obtain ⟨c0, c1, c2, c3, c4, c5, c6, c7, c8⟩ := H1.out.cs)
    (try simp only [Exit.inBlock, Exit.then])
    exact bodyPost_ret (results_tmp2 rfl _ _ _) rfl ⟨rfl, H1.out.b⟩
end
end Go.Proofs.YtkmldgcnbjjbcaaDoor.Sa
