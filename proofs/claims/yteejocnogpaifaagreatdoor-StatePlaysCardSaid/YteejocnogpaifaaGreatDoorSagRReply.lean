/-
  What the document's own Reply of a saga answers.
  Conditions: the definition's steps lie in memory, its names are of moderate length.
-/
import Derived.Test.YteejocnogpaifaaGreatDoorSagReply
import Derived.Test.YteejocnogpaifaaGreatDoorSagRGood
import Derived.Deep.DeepCutAuto
namespace Go.Proofs.YteejocnogpaifaaGreatDoor.Sa
open Go.RowKit Go.Sort
open Go.Proofs.YteejocnogpaifaaGreatDoor.El
open Go.Proofs.YteejocnogpaifaaGreatDoor.Bo (P Made ret_int ret_bool left wait)
open Go.Proofs.YteejocnogpaifaaGreatDoor.Df

/-- is it the saga's way? -/
def wayB (s : Sg) (r : Rp) : Bool := decide (s.ph = 0) && !r.un || decide (s.ph = 1) && r.un
theorem way_iff {s : Sg} {r : Rp} : wayB s r = true ↔ ((s.ph = 0 ∧ r.un = false) ∨ (s.ph = 1 ∧ r.un = true)) := by
  unfold wayB
  simp only [Bool.or_eq_true, Bool.and_eq_true, decide_eq_true_eq, Bool.not_eq_true']
/-- isn't it of the step and of a try that was? -/
def badB (wy : Bool) (s : Sg) (r : Rp) : Bool := !wy || !decide (r.sp = s.sp) || decide (r.tr < 1) || decide (s.tr < r.tr)
theorem bad_iff {wy : Bool} {s : Sg} {r : Rp} : badB wy s r = false ↔ wy = true ∧ r.sp = s.sp ∧ 1 ≤ r.tr ∧ r.tr ≤ s.tr := by
  unfold badB
  simp only [Bool.or_eq_false_iff, Bool.not_eq_false', decide_eq_true_eq, decide_eq_false_iff_not]
  constructor
  · rintro ⟨⟨⟨h1, h2⟩, h3⟩, h4⟩
    exact ⟨h1, h2, by omega, by omega⟩
  · rintro ⟨h1, h2, h3, h4⟩
    exact ⟨⟨⟨h1, h2⟩, by omega⟩, by omega⟩
theorem acc_bad {wy : Bool} {s : Sg} {r : Rp} (hw : wy = wayB s r) (h : badB wy s r = true) : accB s r = false := by
  cases e : accB s r with
  | false => rfl
  | true =>
    have h1 := acc_iff.1 e
    have h2 : badB wy s r = false := bad_iff.2 ⟨by rw [hw]; exact way_iff.2 h1.1, h1.2.1, h1.2.2.1, h1.2.2.2.1⟩
    rw [h] at h2
    cases h2
theorem acc_good {wy : Bool} {s : Sg} {r : Rp} (hw : wy = wayB s r) (h : badB wy s r = false) : accB s r = (r.good || decide (r.tr = s.tr) && s.out) := by
  obtain ⟨h1, h2, h3, h4⟩ := bad_iff.1 h
  rw [hw] at h1
  rw [Bool.eq_iff_iff, acc_iff]
  simp only [Bool.or_eq_true, Bool.and_eq_true, decide_eq_true_eq]
  exact ⟨fun e => e.2.2.2.2, fun e => ⟨way_iff.1 h1, h2, h3, h4, e⟩⟩
section
variable (nm : ByteArray) (dl : Int) (A : Option Addr) (n c : Nat) (ss : List Stp) (s : Sg) (r : Rp) (w : World) (hd : Dn w nm A n c ss) (now : Int) (ht : s.tr ≤ 9223372036854775807)
include hd ht
set_option maxRecDepth 100000 in
set_option maxHeartbeats 8000000 in
theorem rreply_any : Calls Tryz.prog 26 #[.agg #[.string nm, .int .i64 dl, .slice A n c], .agg #[.int .i64 s.id, .string s.dn, .int .i64 s.st, .int .i64 s.ph, .int .i64 s.sp, .int .i64 s.tr, .bool s.out, .int .i64 s.at_, .int .i64 s.sk], .agg #[.int .i64 r.sg, .int .i64 r.sp, .bool r.un, .int .i64 r.tr, .bool r.good], .int .i64 now] w fun e w' => e = .returned (.tuple #[.agg (replyA nm dl ss s r now).1.arr, .int .i64 (replyA nm dl ss s r now).2]) ∧ Below w.heap.size w w' := by
  obtain ⟨Y, hY⟩ : ∃ Y, Y = replyA nm dl ss s r now := ⟨_, rfl⟩
  rw [← hY]
  have HY := Lib.hid hY
  have HR := Lib.hid (fun W (hW : Below w.heap.size w W) => rcheck14_any nm dl A n c ss s W (hd.on hW) now)
  clear hY
  by_cases h0 : refE nm dl ss s now = 0
  · have hr := refE_zero h0
    rw [h0] at HR
    by_cases h1 : r.sg = s.id
    · have g1 : (r.sg != s.id) = false := by simpa using h1
      have hN := hd.en
      have hL := hd.len
      have hsp := hr.1.fld.sp
      have HX : Hid (Y = if accB s r = false then (s, 15) else if r.good = true then (doneS n s now, 0) else (failS ss s now, 0)) := Lib.hid (by rw [HY.out, hN]; unfold replyA; rw [if_neg (by simpa using h0), if_neg (by simpa using h1)])
      have HD := Lib.hid (rdone_any nm dl A n c s now ⟨hsp.1, by omega⟩ hL)
      have HF : Hid (1 ≤ s.tr → ∀ W, Below w.heap.size w W → Calls Tryz.prog 59 #[.agg #[.string nm, .int .i64 dl, .slice A n c], .agg #[.int .i64 s.id, .string s.dn, .int .i64 s.st, .int .i64 s.ph, .int .i64 s.sp, .int .i64 s.tr, .bool s.out, .int .i64 s.at_, .int .i64 s.sk], .int .i64 now] W fun e w' => e = .returned (.agg (failS ss s now).arr) ∧ Below W.heap.size W w') := Lib.hid fun h W hW => fails_any nm dl A n c ss s now W (hd.on hW) hsp.1 (by omega) (good_plan hr.1) ⟨h, ht⟩
      generalize doneS n s now = X1 at *
      generalize failS ss s now = X2 at *
      obtain ⟨wy, hwy⟩ : ∃ wy, wy = wayB s r := ⟨_, rfl⟩
      have HWY := Lib.hid hwy
      clear hwy hr hd ht h0 h1 hN hL hsp HY
      go_enter Tryz.func26, Tryz.ntmps26
      go_upto_region 6 with (go_at_call 23; (with_reducible refine (HR.out _ (b4 w _ _ _ _)).mono ?_); rintro e w1 ⟨rfl, hm⟩; have H1 := Lib.hid (er4 (s := s) (r := r) rfl rfl rfl rfl hm); clear hm; obtain ⟨d0, d1, d2⟩ := H1.out.e.cd; obtain ⟨c0, c1, c2, c3, c4, c5, c6, c7, c8⟩ := H1.out.e.cs; obtain ⟨e0, e1, e2, e3, e4⟩ := H1.out.rc)
      go_cut [11] (fun v wx => v = .bool wy ∧ wx = w1)
      case first =>
        by_cases p0 : s.ph = 0
        · have g0 : (s.ph == 0) = true := by simp [p0]
          rcases Bool.eq_false_or_eq_true r.un with hu | hu
          · rw [hu] at e2
            have p1 : ¬ s.ph = 1 := by omega
            have g3 : (s.ph == 1) = false := by simpa using p1
            have hp : wy = false := by rw [HWY.out]; simp [wayB, p0, hu]
            subst hp
            clear HWY HX HD HF
            go_wp2
            go_meet
            exact ⟨rfl, rfl⟩
          · rw [hu] at e2
            have hp : wy = true := by rw [HWY.out]; simp [wayB, p0, hu]
            subst hp
            clear HWY HX HD HF
            go_wp2
            go_meet
            exact ⟨rfl, rfl⟩
        · have g0 : (s.ph == 0) = false := by simpa using p0
          by_cases p1 : s.ph = 1
          · have g3 : (s.ph == 1) = true := by simp [p1]
            rcases Bool.eq_false_or_eq_true r.un with hu | hu
            · rw [hu] at e2
              have hp : wy = true := by rw [HWY.out]; simp [wayB, p1, hu]
              subst hp
              clear HWY HX HD HF
              go_wp2
              go_meet
              exact ⟨rfl, rfl⟩
            · rw [hu] at e2
              have hp : wy = false := by rw [HWY.out]; simp [wayB, p1, hu]
              subst hp
              clear HWY HX HD HF
              go_wp2
              go_meet
              exact ⟨rfl, rfl⟩
          · have g3 : (s.ph == 1) = false := by simpa using p1
            have hp : wy = false := by rw [HWY.out]; simp [wayB, p0, p1]
            subst hp
            clear HWY HX HD HF
            go_wp2
            go_meet
            exact ⟨rfl, rfl⟩
      case rest =>
        obtain ⟨rfl, rfl⟩ := hcut
        obtain ⟨bad, hbad⟩ : ∃ bad, bad = badB wy s r := ⟨_, rfl⟩
        have HBad := Lib.hid hbad
        clear hbad
        go_upto_region 7 with (fail)
        go_cut [63] (fun v wx => v = .bool bad ∧ wx = wc)
        case first =>
          cases wy with
          | false =>
            have hp : bad = true := by rw [HBad.out]; rfl
            subst hp
            clear HBad HWY HX HD HF
            go_wp2
            go_meet
            exact ⟨rfl, rfl⟩
          | true =>
            by_cases hs : r.sp = s.sp
            · have gs : (r.sp != s.sp) = false := by simpa using hs
              have HS := Lib.hid hs
              clear hs
              by_cases q1 : r.tr < 1
              · have g2 : decide (r.tr < 1) = true := decide_eq_true q1
                have hp : bad = true := by rw [HBad.out]; unfold badB; simp [q1]
                subst hp
                clear HBad HWY HX HD HF
                go_wp2
                go_meet
                exact ⟨rfl, rfl⟩
              · have g2 : decide (r.tr < 1) = false := decide_eq_false q1
                by_cases q2 : s.tr < r.tr
                · have g4 : decide (s.tr < r.tr) = true := decide_eq_true q2
                  have hp : bad = true := by rw [HBad.out]; unfold badB; simp [q2]
                  subst hp
                  clear HBad HWY HX HD HF
                  go_wp2
                  go_meet
                  exact ⟨rfl, rfl⟩
                · have g4 : decide (s.tr < r.tr) = false := decide_eq_false q2
                  have hp : bad = false := by rw [HBad.out]; exact bad_iff.2 ⟨rfl, HS.out, by omega, by omega⟩
                  subst hp
                  clear HBad HWY HX HD HF
                  go_wp2
                  go_meet
                  exact ⟨rfl, rfl⟩
            · have gs : (r.sp != s.sp) = true := by simpa using hs
              have hp : bad = true := by rw [HBad.out]; unfold badB; simp [hs]
              subst hp
              clear HBad HWY HX HD HF
              go_wp2
              go_meet
              exact ⟨rfl, rfl⟩
        case rest =>
          obtain ⟨rfl, rfl⟩ := hcut
          cases bad with
          | true =>
            have hX : Y = (s, 15) := by rw [HX.out, if_pos (acc_bad HWY.out HBad.out.symm)]
            subst hX
            clear HX HBad HWY HD HF
            go_wp2_with (obtain ⟨cs, hcs, hsz⟩ := H1.out.q; refine wpList_store_row rfl 49 _ _ rfl (w.heap.size + 3) 49 cs (s).arr rfl rfl hcs (sizeG _) hsz (oneG _) ?_)
            exact bodyPost_ret (res_sg_tmp rfl _ _ (w.heap.size + 3) (s) rfl (box_row hcs _)) rfl ⟨rfl, row_end H1.out.e.b (by omega) _⟩
          | false =>
            have HA := Lib.hid (acc_good HWY.out HBad.out.symm)
            have hb := bad_iff.1 HBad.out.symm
            have hq : 1 ≤ r.tr ∧ r.tr ≤ s.tr := hb.2.2
            clear HBad HWY hb
            cases hg : r.good with
            | true =>
              have hX : Y = (X1, 0) := by rw [HX.out, if_neg (by rw [HA.out, hg]; simp), if_pos hg]
              subst hX
              rw [hg] at e4
              clear HX HA HF hg hq
              go_wp2_with (first
                | (go_at_call 58; (with_reducible refine (HD.out _).mono ?_); rintro e w3 ⟨rfl, hm⟩; have H2 := Lib.hid (H1.out.on hm); clear hm)
                | (obtain ⟨cs, hcs, hsz⟩ := H2.out.q; refine wpList_store_row rfl 49 _ _ rfl (w.heap.size + 3) 49 cs (X1).arr rfl rfl hcs (sizeG _) hsz (oneG _) ?_))
              exact bodyPost_ret (res_sg_tmp rfl _ _ (w.heap.size + 3) (X1) rfl (box_row hcs _)) rfl ⟨rfl, row_end H2.out.e.b (by omega) _⟩
            | false =>
              obtain ⟨late, hlate⟩ : ∃ late, late = (!s.out || decide (r.tr < s.tr)) := ⟨_, rfl⟩
              have HLate := Lib.hid hlate
              clear hlate
              have HX2 : Hid (Y = if late = true then (s, 15) else (X2, 0)) := Lib.hid (by
                rw [HX.out, HA.out, hg, HLate.out]
                cases s.out with
                | false => simp
                | true =>
                  by_cases ht : r.tr < s.tr
                  · have : ¬ r.tr = s.tr := by omega
                    simp [ht, this]
                  · have : r.tr = s.tr := by omega
                    simp [this])
              rw [hg] at e4
              have HF2 := Lib.hid (HF.out (by omega))
              clear HX HA HF HD hg
              go_upto_region 11 with (fail)
              go_cut [80] (fun v wx => v = .bool late ∧ wx = wc)
              case first =>
                rcases Bool.eq_false_or_eq_true s.out with ho | ho
                rotate_left
                · rw [ho] at c6
                  have HO := Lib.hid ho
                  clear ho
                  have hp : late = true := by rw [HLate.out]; rw [HO.out]; rfl
                  subst hp
                  clear HLate HX2 HF2
                  go_wp2
                  go_meet
                  exact ⟨rfl, rfl⟩
                · rw [ho] at c6
                  have HO := Lib.hid ho
                  clear ho
                  by_cases q3 : r.tr < s.tr
                  · have g5 : decide (r.tr < s.tr) = true := decide_eq_true q3
                    have hp : late = true := by rw [HLate.out]; rw [HO.out, g5]; rfl
                    subst hp
                    clear HLate HX2 HF2
                    go_wp2
                    go_meet
                    exact ⟨rfl, rfl⟩
                  · have g5 : decide (r.tr < s.tr) = false := decide_eq_false q3
                    have hp : late = false := by rw [HLate.out]; rw [HO.out, g5]; rfl
                    subst hp
                    clear HLate HX2 HF2
                    go_wp2
                    go_meet
                    exact ⟨rfl, rfl⟩
              case rest =>
                obtain ⟨rfl, rfl⟩ := hcut
                cases late with
                | true =>
                  have hX : Y = (s, 15) := by rw [HX2.out, if_pos rfl]
                  subst hX
                  clear HX2 HLate HF2
                  go_wp2_with (obtain ⟨cs, hcs, hsz⟩ := H1.out.q; refine wpList_store_row rfl 49 _ _ rfl (w.heap.size + 3) 49 cs (s).arr rfl rfl hcs (sizeG _) hsz (oneG _) ?_)
                  exact bodyPost_ret (res_sg_tmp rfl _ _ (w.heap.size + 3) (s) rfl (box_row hcs _)) rfl ⟨rfl, row_end H1.out.e.b (by omega) _⟩
                | false =>
                  have hX : Y = (X2, 0) := by rw [HX2.out, if_neg (by simp)]
                  subst hX
                  clear HX2 HLate
                  go_wp2_with (first
                    | (go_at_call 59; (with_reducible refine (HF2.out _ H1.out.e.b).mono ?_); rintro e w3 ⟨rfl, hm⟩; have H2 := Lib.hid (H1.out.on hm); clear hm)
                    | (obtain ⟨cs, hcs, hsz⟩ := H2.out.q; refine wpList_store_row rfl 49 _ _ rfl (w.heap.size + 3) 49 cs (X2).arr rfl rfl hcs (sizeG _) hsz (oneG _) ?_))
                  exact bodyPost_ret (res_sg_tmp rfl _ _ (w.heap.size + 3) (X2) rfl (box_row hcs _)) rfl ⟨rfl, row_end H2.out.e.b (by omega) _⟩
    · have g1 : (r.sg != s.id) = true := by simpa using h1
      have hX : Y = (s, 7) := by rw [HY.out]; unfold replyA; rw [if_neg (by simpa using h0), if_pos h1]
      subst hX
      clear hr hd ht h0 h1 HY
      go_enter Tryz.func26, Tryz.ntmps26
      go_wp2_with (first
        | (go_at_call 23; (with_reducible refine (HR.out _ (b4 w _ _ _ _)).mono ?_); rintro e w1 ⟨rfl, hm⟩; have H1 := Lib.hid (er4 (s := s) (r := r) rfl rfl rfl rfl hm); clear hm; obtain ⟨d0, d1, d2⟩ := H1.out.e.cd; obtain ⟨c0, c1, c2, c3, c4, c5, c6, c7, c8⟩ := H1.out.e.cs; obtain ⟨e0, e1, e2, e3, e4⟩ := H1.out.rc)
        | (obtain ⟨cs, hcs, hsz⟩ := H1.out.q; refine wpList_store_row rfl 49 _ _ rfl (w.heap.size + 3) 49 cs (s).arr rfl rfl hcs (sizeG _) hsz (oneG _) ?_))
      exact bodyPost_ret (res_sg_tmp rfl _ _ (w.heap.size + 3) (s) rfl (box_row hcs _)) rfl ⟨rfl, row_end H1.out.e.b (by omega) _⟩
  · have g0 : (refE nm dl ss s now != 0) = true := by simpa using h0
    have hX : Y = (s, refE nm dl ss s now) := by rw [HY.out]; unfold replyA; rw [if_pos h0]
    subst hX
    generalize refE nm dl ss s now = E at *
    clear hd ht h0 HY
    go_enter Tryz.func26, Tryz.ntmps26
    go_wp2_with (first
      | (go_at_call 23; (with_reducible refine (HR.out _ (b4 w _ _ _ _)).mono ?_); rintro e w1 ⟨rfl, hm⟩; have H1 := Lib.hid (er4 (s := s) (r := r) rfl rfl rfl rfl hm); clear hm; obtain ⟨d0, d1, d2⟩ := H1.out.e.cd; obtain ⟨c0, c1, c2, c3, c4, c5, c6, c7, c8⟩ := H1.out.e.cs; obtain ⟨e0, e1, e2, e3, e4⟩ := H1.out.rc)
      | (obtain ⟨cs, hcs, hsz⟩ := H1.out.q; refine wpList_store_row rfl 49 _ _ rfl (w.heap.size + 3) 49 cs (s).arr rfl rfl hcs (sizeG _) hsz (oneG _) ?_))
    exact bodyPost_ret (res_sg_tmp rfl _ _ (w.heap.size + 3) (s) rfl (box_row hcs _)) rfl ⟨rfl, row_end H1.out.e.b (by omega) _⟩
end
end Go.Proofs.YteejocnogpaifaaGreatDoor.Sa
