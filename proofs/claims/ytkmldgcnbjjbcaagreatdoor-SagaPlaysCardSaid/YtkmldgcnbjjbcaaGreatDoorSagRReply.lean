/-
  What the document's own Reply of a saga answers.
  Conditions: the definition's steps lie in memory, its names are of moderate length.
-/
import Derived.Test.YtkmldgcnbjjbcaaGreatDoorSagReply
import Derived.Test.YtkmldgcnbjjbcaaGreatDoorSagRGood
namespace Go.Proofs.YtkmldgcnbjjbcaaGreatDoor.Sa
open Go.RowKit Go.Sort
open Go.Proofs.YtkmldgcnbjjbcaaGreatDoor.El
open Go.Proofs.YtkmldgcnbjjbcaaGreatDoor.Bo (P Made ret_int ret_bool left wait)
open Go.Proofs.YtkmldgcnbjjbcaaGreatDoor.Df

section
variable (nm : ByteArray) (dl : Int) (A : Option Addr) (n c : Nat) (ss : List Stp) (s : Sg) (r : Rp) (w : World) (hd : Dn w nm A n c ss) (now : Int) (ht : s.tr ≤ 9223372036854775807)
include hd ht
set_option maxRecDepth 100000 in
set_option maxHeartbeats 80000000 in
theorem rreply_any : Calls Tryz.prog 28 #[.agg #[.string nm, .int .i64 dl, .slice A n c], .agg #[.int .i64 s.id, .string s.dn, .int .i64 s.st, .int .i64 s.ph, .int .i64 s.sp, .int .i64 s.tr, .bool s.out, .int .i64 s.at_, .int .i64 s.sk], .agg #[.int .i64 r.sg, .int .i64 r.sp, .bool r.un, .int .i64 r.tr, .bool r.good], .int .i64 now] w fun e w' => e = .returned (.tuple #[.agg (replyA nm dl ss s r now).1.arr, .int .i64 (replyA nm dl ss s r now).2]) ∧ Below w.heap.size w w' := by
  have HR := Lib.hid (fun W (hW : Below w.heap.size w W) => rcheck14_any nm dl A n c ss s W (hd.on hW) now)
  by_cases h0 : refE nm dl ss s now = 0
  · have hr := refE_zero h0
    rw [h0] at HR
    by_cases h1 : r.sg = s.id
    · have g1 : (r.sg != s.id) = false := by simpa using h1
      have hN := hd.en
      have hL := hd.len
      have hsp := hr.1.fld.sp
      by_cases h2 : accB s r = true
      · have hac := acc_iff.1 h2
        have gs : (r.sp != s.sp) = false := by simpa using hac.2.1
        have q1 := hac.2.2.1
        have q2 := hac.2.2.2.1
        have HX0 : Hid (replyA nm dl ss s r now = if r.good = true then (doneS n s now, 0) else (failS ss s now, 0)) := Lib.hid (by unfold replyA; rw [if_neg (by simpa using h0), if_neg (by simpa using h1), if_neg (by rw [h2]; simp), hN])
        have HD := Lib.hid (rdone_any nm dl A n c s now ⟨hsp.1, by omega⟩ hL)
        have HF := Lib.hid (fun W (hW : Below w.heap.size w W) => fails_any nm dl A n c ss s now W (hd.on hW) hsp.1 (by omega) (good_plan hr.1) ⟨by omega, ht⟩)
        generalize replyA nm dl ss s r now = Y at *
        generalize doneS n s now = X1 at *
        generalize failS ss s now = X2 at *
        have hw := hac.1
        have hz := hac.2.2.2.2
        clear hr hd ht h0 h1 h2 hac hN hL hsp
        rcases hw with ⟨w1, w2⟩ | ⟨w1, w2⟩
        · have p0 : (s.ph == 0) = true := by simp [w1]
          clear w1
          have W2 := Lib.hid w2
          clear w2
          cases h3 : r.good with
          | true =>
            have hY := HX0.out
            rw [if_pos h3] at hY
            subst hY
            clear HX0 HF hz
            go_enter Tryz.func28, Tryz.ntmps28
            go_wp2_with (first
              | (go_at_call 26; (with_reducible refine (HR.out _ (b4 w _ _ _ _)).mono ?_); rintro e w1 ⟨rfl, hm⟩; have H1 := Lib.hid (er4 (s := s) (r := r) rfl (by first | rfl | assumption) (by first | rfl | assumption) (by first | rfl | assumption) hm); clear hm; obtain ⟨d0, d1, d2⟩ := H1.out.e.cd; obtain ⟨c0, c1, c2, c3, c4, c5, c6, c7, c8⟩ := H1.out.e.cs; obtain ⟨r0, r1, r2, r3, r4⟩ := H1.out.rc; rw [h3] at r4; rw [W2.out] at r2)
              | (go_at_call 53; (with_reducible refine (HD.out _).mono ?_); rintro e w3 ⟨rfl, hm⟩; have H2 := Lib.hid (H1.out.on hm); clear hm)
              | (obtain ⟨cs, hcs, hsz⟩ := H2.out.q; refine wpList_store_row rfl 26 _ _ rfl (w.heap.size + 3) 26 cs (X1).arr rfl rfl hcs (sizeG _) hsz (oneG _) ?_))
            exact bodyPost_ret (res_sg_tmp rfl _ _ (w.heap.size + 3) (X1) rfl (box_row hcs _)) rfl ⟨rfl, row_end H2.out.e.b (by omega) _⟩
          | false =>
            have hY := HX0.out
            rw [if_neg (by rw [h3]; simp)] at hY
            subst hY
            obtain ⟨z1, z2⟩ : r.tr = s.tr ∧ s.out = true := hz.elim (fun e => by rw [h3] at e; cases e) id
            have z3 : decide (r.tr < s.tr) = false := decide_eq_false (by omega)
            have z4 : ¬ r.tr < s.tr := by omega
            clear HX0 HD hz z1
            rw [z2] at HF
            have Z2 := Lib.hid z2
            clear z2
            go_enter Tryz.func28, Tryz.ntmps28
            go_wp2_with (first
              | (go_at_call 26; (with_reducible refine (HR.out _ (b4 w _ _ _ _)).mono ?_); rintro e w1 ⟨rfl, hm⟩; have H1 := Lib.hid (er4 (s := s) (r := r) rfl (by first | rfl | assumption) (by first | rfl | assumption) (by first | rfl | assumption) hm); clear hm; obtain ⟨d0, d1, d2⟩ := H1.out.e.cd; obtain ⟨c0, c1, c2, c3, c4, c5, c6, c7, c8⟩ := H1.out.e.cs; obtain ⟨r0, r1, r2, r3, r4⟩ := H1.out.rc; rw [h3] at r4; rw [W2.out] at r2; rw [Z2.out] at c6)
              | (go_at_call 54; (with_reducible refine (HF.out _ H1.out.e.b).mono ?_); rintro e w3 ⟨rfl, hm⟩; have H2 := Lib.hid (H1.out.on hm); clear hm)
              | (obtain ⟨cs, hcs, hsz⟩ := H2.out.q; refine wpList_store_row rfl 26 _ _ rfl (w.heap.size + 3) 26 cs (X2).arr rfl rfl hcs (sizeG _) hsz (oneG _) ?_))
            exact bodyPost_ret (res_sg_tmp rfl _ _ (w.heap.size + 3) (X2) rfl (box_row hcs _)) rfl ⟨rfl, row_end H2.out.e.b (by omega) _⟩
        · have p0 : (s.ph == 0) = false := by simp [w1]
          have p1 : (s.ph == 1) = true := by simp [w1]
          clear w1
          have W2 := Lib.hid w2
          clear w2
          cases h3 : r.good with
          | true =>
            have hY := HX0.out
            rw [if_pos h3] at hY
            subst hY
            clear HX0 HF hz
            go_enter Tryz.func28, Tryz.ntmps28
            go_wp2_with (first
              | (go_at_call 26; (with_reducible refine (HR.out _ (b4 w _ _ _ _)).mono ?_); rintro e w1 ⟨rfl, hm⟩; have H1 := Lib.hid (er4 (s := s) (r := r) rfl (by first | rfl | assumption) (by first | rfl | assumption) (by first | rfl | assumption) hm); clear hm; obtain ⟨d0, d1, d2⟩ := H1.out.e.cd; obtain ⟨c0, c1, c2, c3, c4, c5, c6, c7, c8⟩ := H1.out.e.cs; obtain ⟨r0, r1, r2, r3, r4⟩ := H1.out.rc; rw [h3] at r4; rw [W2.out] at r2)
              | (go_at_call 53; (with_reducible refine (HD.out _).mono ?_); rintro e w3 ⟨rfl, hm⟩; have H2 := Lib.hid (H1.out.on hm); clear hm)
              | (obtain ⟨cs, hcs, hsz⟩ := H2.out.q; refine wpList_store_row rfl 26 _ _ rfl (w.heap.size + 3) 26 cs (X1).arr rfl rfl hcs (sizeG _) hsz (oneG _) ?_))
            exact bodyPost_ret (res_sg_tmp rfl _ _ (w.heap.size + 3) (X1) rfl (box_row hcs _)) rfl ⟨rfl, row_end H2.out.e.b (by omega) _⟩
          | false =>
            have hY := HX0.out
            rw [if_neg (by rw [h3]; simp)] at hY
            subst hY
            obtain ⟨z1, z2⟩ : r.tr = s.tr ∧ s.out = true := hz.elim (fun e => by rw [h3] at e; cases e) id
            have z3 : decide (r.tr < s.tr) = false := decide_eq_false (by omega)
            have z4 : ¬ r.tr < s.tr := by omega
            clear HX0 HD hz z1
            rw [z2] at HF
            have Z2 := Lib.hid z2
            clear z2
            go_enter Tryz.func28, Tryz.ntmps28
            go_wp2_with (first
              | (go_at_call 26; (with_reducible refine (HR.out _ (b4 w _ _ _ _)).mono ?_); rintro e w1 ⟨rfl, hm⟩; have H1 := Lib.hid (er4 (s := s) (r := r) rfl (by first | rfl | assumption) (by first | rfl | assumption) (by first | rfl | assumption) hm); clear hm; obtain ⟨d0, d1, d2⟩ := H1.out.e.cd; obtain ⟨c0, c1, c2, c3, c4, c5, c6, c7, c8⟩ := H1.out.e.cs; obtain ⟨r0, r1, r2, r3, r4⟩ := H1.out.rc; rw [h3] at r4; rw [W2.out] at r2; rw [Z2.out] at c6)
              | (go_at_call 54; (with_reducible refine (HF.out _ H1.out.e.b).mono ?_); rintro e w3 ⟨rfl, hm⟩; have H2 := Lib.hid (H1.out.on hm); clear hm)
              | (obtain ⟨cs, hcs, hsz⟩ := H2.out.q; refine wpList_store_row rfl 26 _ _ rfl (w.heap.size + 3) 26 cs (X2).arr rfl rfl hcs (sizeG _) hsz (oneG _) ?_))
            exact bodyPost_ret (res_sg_tmp rfl _ _ (w.heap.size + 3) (X2) rfl (box_row hcs _)) rfl ⟨rfl, row_end H2.out.e.b (by omega) _⟩
      · have h2' : accB s r = false := by simpa using h2
        have hX : replyA nm dl ss s r now = (s, 15) := by unfold replyA; rw [if_neg (by simpa using h0), if_neg (by simpa using h1), if_pos h2']
        have hq := fun e => h2 (acc_iff.2 e)
        rw [hX]
        clear hX hr hd ht h0 h1 h2 h2' hN hL hsp
        by_cases hw : (s.ph = 0 ∧ r.un = false) ∨ (s.ph = 1 ∧ r.un = true)
        · by_cases hs : r.sp = s.sp
          · by_cases q1 : 1 ≤ r.tr
            · by_cases q2 : r.tr ≤ s.tr
              · have hz : ¬ (r.good = true ∨ (r.tr = s.tr ∧ s.out = true)) := fun e => hq ⟨hw, hs, q1, q2, e⟩
                have hgd : r.good = false := by simpa using fun e => hz (.inl e)
                have ho : s.out = false ∨ (s.out = true ∧ r.tr < s.tr) := by
                  cases ho : s.out with
                  | false => exact .inl rfl
                  | true =>
                    have hne : ¬ r.tr = s.tr := fun e => hz (.inr ⟨e, ho⟩)
                    exact .inr ⟨rfl, by omega⟩
                have gs : (r.sp != s.sp) = false := by simpa using hs
                have HG := Lib.hid hgd
                clear hq hs hz hgd
                rcases ho with ho | ⟨ho, q3⟩
                · have HO := Lib.hid ho
                  clear ho
                  rcases hw with ⟨w1, w2⟩ | ⟨w1, w2⟩
                  · have he : (s, (15 : Int)) = (outS s false, 15) := by rw [← outS_self HO.out]
                    rw [he]
                    clear he
                    have p0 : (s.ph == 0) = true := by simp [w1]
                    have W2 := Lib.hid w2
                    clear w1 w2
                    go_enter Tryz.func28, Tryz.ntmps28
                    go_wp2_with (first
                      | (go_at_call 26; (with_reducible refine (HR.out _ (b4 w _ _ _ _)).mono ?_); rintro e w1 ⟨rfl, hm⟩; have H1 := Lib.hid (er4 (s := s) (r := r) rfl (by first | rfl | assumption) (by first | rfl | assumption) (by first | rfl | assumption) hm); clear hm; obtain ⟨d0, d1, d2⟩ := H1.out.e.cd; obtain ⟨c0, c1, c2, c3, c4, c5, c6, c7, c8⟩ := H1.out.e.cs; obtain ⟨r0, r1, r2, r3, r4⟩ := H1.out.rc; rw [W2.out] at r2; rw [HG.out] at r4; rw [HO.out] at c6)
                      | (obtain ⟨cs, hcs, hsz⟩ := H1.out.q; refine wpList_store_row rfl 26 _ _ rfl (w.heap.size + 3) 26 cs (outS s false).arr rfl rfl hcs (sizeG _) hsz (oneG _) ?_))
                    all_goals
                      exact bodyPost_ret (res_sg_tmp rfl _ _ (w.heap.size + 3) (outS s false) rfl (box_row hcs _)) rfl ⟨rfl, row_end H1.out.e.b (by omega) _⟩
                  · have he : (s, (15 : Int)) = (outS s false, 15) := by rw [← outS_self HO.out]
                    rw [he]
                    clear he
                    have p0 : (s.ph == 0) = false := by simp [w1]
                    have p1 : (s.ph == 1) = true := by simp [w1]
                    have W2 := Lib.hid w2
                    clear w1 w2
                    go_enter Tryz.func28, Tryz.ntmps28
                    go_wp2_with (first
                      | (go_at_call 26; (with_reducible refine (HR.out _ (b4 w _ _ _ _)).mono ?_); rintro e w1 ⟨rfl, hm⟩; have H1 := Lib.hid (er4 (s := s) (r := r) rfl (by first | rfl | assumption) (by first | rfl | assumption) (by first | rfl | assumption) hm); clear hm; obtain ⟨d0, d1, d2⟩ := H1.out.e.cd; obtain ⟨c0, c1, c2, c3, c4, c5, c6, c7, c8⟩ := H1.out.e.cs; obtain ⟨r0, r1, r2, r3, r4⟩ := H1.out.rc; rw [W2.out] at r2; rw [HG.out] at r4; rw [HO.out] at c6)
                      | (obtain ⟨cs, hcs, hsz⟩ := H1.out.q; refine wpList_store_row rfl 26 _ _ rfl (w.heap.size + 3) 26 cs (outS s false).arr rfl rfl hcs (sizeG _) hsz (oneG _) ?_))
                    all_goals
                      exact bodyPost_ret (res_sg_tmp rfl _ _ (w.heap.size + 3) (outS s false) rfl (box_row hcs _)) rfl ⟨rfl, row_end H1.out.e.b (by omega) _⟩
                · have HO := Lib.hid ho
                  clear ho
                  rcases hw with ⟨w1, w2⟩ | ⟨w1, w2⟩
                  · have he : (s, (15 : Int)) = (outS s true, 15) := by rw [← outS_self HO.out]
                    rw [he]
                    clear he
                    have p0 : (s.ph == 0) = true := by simp [w1]
                    have W2 := Lib.hid w2
                    clear w1 w2
                    go_enter Tryz.func28, Tryz.ntmps28
                    go_wp2_with (first
                      | (go_at_call 26; (with_reducible refine (HR.out _ (b4 w _ _ _ _)).mono ?_); rintro e w1 ⟨rfl, hm⟩; have H1 := Lib.hid (er4 (s := s) (r := r) rfl (by first | rfl | assumption) (by first | rfl | assumption) (by first | rfl | assumption) hm); clear hm; obtain ⟨d0, d1, d2⟩ := H1.out.e.cd; obtain ⟨c0, c1, c2, c3, c4, c5, c6, c7, c8⟩ := H1.out.e.cs; obtain ⟨r0, r1, r2, r3, r4⟩ := H1.out.rc; rw [W2.out] at r2; rw [HG.out] at r4; rw [HO.out] at c6)
                      | (obtain ⟨cs, hcs, hsz⟩ := H1.out.q; refine wpList_store_row rfl 26 _ _ rfl (w.heap.size + 3) 26 cs (outS s true).arr rfl rfl hcs (sizeG _) hsz (oneG _) ?_))
                    all_goals
                      exact bodyPost_ret (res_sg_tmp rfl _ _ (w.heap.size + 3) (outS s true) rfl (box_row hcs _)) rfl ⟨rfl, row_end H1.out.e.b (by omega) _⟩
                  · have he : (s, (15 : Int)) = (outS s true, 15) := by rw [← outS_self HO.out]
                    rw [he]
                    clear he
                    have p0 : (s.ph == 0) = false := by simp [w1]
                    have p1 : (s.ph == 1) = true := by simp [w1]
                    have W2 := Lib.hid w2
                    clear w1 w2
                    go_enter Tryz.func28, Tryz.ntmps28
                    go_wp2_with (first
                      | (go_at_call 26; (with_reducible refine (HR.out _ (b4 w _ _ _ _)).mono ?_); rintro e w1 ⟨rfl, hm⟩; have H1 := Lib.hid (er4 (s := s) (r := r) rfl (by first | rfl | assumption) (by first | rfl | assumption) (by first | rfl | assumption) hm); clear hm; obtain ⟨d0, d1, d2⟩ := H1.out.e.cd; obtain ⟨c0, c1, c2, c3, c4, c5, c6, c7, c8⟩ := H1.out.e.cs; obtain ⟨r0, r1, r2, r3, r4⟩ := H1.out.rc; rw [W2.out] at r2; rw [HG.out] at r4; rw [HO.out] at c6)
                      | (obtain ⟨cs, hcs, hsz⟩ := H1.out.q; refine wpList_store_row rfl 26 _ _ rfl (w.heap.size + 3) 26 cs (outS s true).arr rfl rfl hcs (sizeG _) hsz (oneG _) ?_))
                    all_goals
                      exact bodyPost_ret (res_sg_tmp rfl _ _ (w.heap.size + 3) (outS s true) rfl (box_row hcs _)) rfl ⟨rfl, row_end H1.out.e.b (by omega) _⟩
              · have gs : (r.sp != s.sp) = false := by simpa using hs
                clear hq hs
                rcases hw with ⟨w1, w2⟩ | ⟨w1, w2⟩
                · have p0 : (s.ph == 0) = true := by simp [w1]
                  have W2 := Lib.hid w2
                  clear w1 w2
                  go_enter Tryz.func28, Tryz.ntmps28
                  go_wp2_with (first
                    | (go_at_call 26; (with_reducible refine (HR.out _ (b4 w _ _ _ _)).mono ?_); rintro e w1 ⟨rfl, hm⟩; have H1 := Lib.hid (er4 (s := s) (r := r) rfl (by first | rfl | assumption) (by first | rfl | assumption) (by first | rfl | assumption) hm); clear hm; obtain ⟨d0, d1, d2⟩ := H1.out.e.cd; obtain ⟨c0, c1, c2, c3, c4, c5, c6, c7, c8⟩ := H1.out.e.cs; obtain ⟨r0, r1, r2, r3, r4⟩ := H1.out.rc; rw [W2.out] at r2)
                    | (obtain ⟨cs, hcs, hsz⟩ := H1.out.q; refine wpList_store_row rfl 26 _ _ rfl (w.heap.size + 3) 26 cs (s).arr rfl rfl hcs (sizeG _) hsz (oneG _) ?_))
                  all_goals
                    exact bodyPost_ret (res_sg_tmp rfl _ _ (w.heap.size + 3) (s) rfl (box_row hcs _)) rfl ⟨rfl, row_end H1.out.e.b (by omega) _⟩
                · have p0 : (s.ph == 0) = false := by simp [w1]
                  have p1 : (s.ph == 1) = true := by simp [w1]
                  have W2 := Lib.hid w2
                  clear w1 w2
                  go_enter Tryz.func28, Tryz.ntmps28
                  go_wp2_with (first
                    | (go_at_call 26; (with_reducible refine (HR.out _ (b4 w _ _ _ _)).mono ?_); rintro e w1 ⟨rfl, hm⟩; have H1 := Lib.hid (er4 (s := s) (r := r) rfl (by first | rfl | assumption) (by first | rfl | assumption) (by first | rfl | assumption) hm); clear hm; obtain ⟨d0, d1, d2⟩ := H1.out.e.cd; obtain ⟨c0, c1, c2, c3, c4, c5, c6, c7, c8⟩ := H1.out.e.cs; obtain ⟨r0, r1, r2, r3, r4⟩ := H1.out.rc; rw [W2.out] at r2)
                    | (obtain ⟨cs, hcs, hsz⟩ := H1.out.q; refine wpList_store_row rfl 26 _ _ rfl (w.heap.size + 3) 26 cs (s).arr rfl rfl hcs (sizeG _) hsz (oneG _) ?_))
                  all_goals
                    exact bodyPost_ret (res_sg_tmp rfl _ _ (w.heap.size + 3) (s) rfl (box_row hcs _)) rfl ⟨rfl, row_end H1.out.e.b (by omega) _⟩
            · have gs : (r.sp != s.sp) = false := by simpa using hs
              clear hq hs
              rcases hw with ⟨w1, w2⟩ | ⟨w1, w2⟩
              · have p0 : (s.ph == 0) = true := by simp [w1]
                have W2 := Lib.hid w2
                clear w1 w2
                go_enter Tryz.func28, Tryz.ntmps28
                go_wp2_with (first
                  | (go_at_call 26; (with_reducible refine (HR.out _ (b4 w _ _ _ _)).mono ?_); rintro e w1 ⟨rfl, hm⟩; have H1 := Lib.hid (er4 (s := s) (r := r) rfl (by first | rfl | assumption) (by first | rfl | assumption) (by first | rfl | assumption) hm); clear hm; obtain ⟨d0, d1, d2⟩ := H1.out.e.cd; obtain ⟨c0, c1, c2, c3, c4, c5, c6, c7, c8⟩ := H1.out.e.cs; obtain ⟨r0, r1, r2, r3, r4⟩ := H1.out.rc; rw [W2.out] at r2)
                  | (obtain ⟨cs, hcs, hsz⟩ := H1.out.q; refine wpList_store_row rfl 26 _ _ rfl (w.heap.size + 3) 26 cs (s).arr rfl rfl hcs (sizeG _) hsz (oneG _) ?_))
                all_goals
                  exact bodyPost_ret (res_sg_tmp rfl _ _ (w.heap.size + 3) (s) rfl (box_row hcs _)) rfl ⟨rfl, row_end H1.out.e.b (by omega) _⟩
              · have p0 : (s.ph == 0) = false := by simp [w1]
                have p1 : (s.ph == 1) = true := by simp [w1]
                have W2 := Lib.hid w2
                clear w1 w2
                go_enter Tryz.func28, Tryz.ntmps28
                go_wp2_with (first
                  | (go_at_call 26; (with_reducible refine (HR.out _ (b4 w _ _ _ _)).mono ?_); rintro e w1 ⟨rfl, hm⟩; have H1 := Lib.hid (er4 (s := s) (r := r) rfl (by first | rfl | assumption) (by first | rfl | assumption) (by first | rfl | assumption) hm); clear hm; obtain ⟨d0, d1, d2⟩ := H1.out.e.cd; obtain ⟨c0, c1, c2, c3, c4, c5, c6, c7, c8⟩ := H1.out.e.cs; obtain ⟨r0, r1, r2, r3, r4⟩ := H1.out.rc; rw [W2.out] at r2)
                  | (obtain ⟨cs, hcs, hsz⟩ := H1.out.q; refine wpList_store_row rfl 26 _ _ rfl (w.heap.size + 3) 26 cs (s).arr rfl rfl hcs (sizeG _) hsz (oneG _) ?_))
                all_goals
                  exact bodyPost_ret (res_sg_tmp rfl _ _ (w.heap.size + 3) (s) rfl (box_row hcs _)) rfl ⟨rfl, row_end H1.out.e.b (by omega) _⟩
          · have gs : (r.sp != s.sp) = true := by simpa using hs
            clear hq hs
            rcases hw with ⟨w1, w2⟩ | ⟨w1, w2⟩
            · have p0 : (s.ph == 0) = true := by simp [w1]
              have W2 := Lib.hid w2
              clear w1 w2
              go_enter Tryz.func28, Tryz.ntmps28
              go_wp2_with (first
                | (go_at_call 26; (with_reducible refine (HR.out _ (b4 w _ _ _ _)).mono ?_); rintro e w1 ⟨rfl, hm⟩; have H1 := Lib.hid (er4 (s := s) (r := r) rfl (by first | rfl | assumption) (by first | rfl | assumption) (by first | rfl | assumption) hm); clear hm; obtain ⟨d0, d1, d2⟩ := H1.out.e.cd; obtain ⟨c0, c1, c2, c3, c4, c5, c6, c7, c8⟩ := H1.out.e.cs; obtain ⟨r0, r1, r2, r3, r4⟩ := H1.out.rc; rw [W2.out] at r2)
                | (obtain ⟨cs, hcs, hsz⟩ := H1.out.q; refine wpList_store_row rfl 26 _ _ rfl (w.heap.size + 3) 26 cs (s).arr rfl rfl hcs (sizeG _) hsz (oneG _) ?_))
              all_goals
                exact bodyPost_ret (res_sg_tmp rfl _ _ (w.heap.size + 3) (s) rfl (box_row hcs _)) rfl ⟨rfl, row_end H1.out.e.b (by omega) _⟩
            · have p0 : (s.ph == 0) = false := by simp [w1]
              have p1 : (s.ph == 1) = true := by simp [w1]
              have W2 := Lib.hid w2
              clear w1 w2
              go_enter Tryz.func28, Tryz.ntmps28
              go_wp2_with (first
                | (go_at_call 26; (with_reducible refine (HR.out _ (b4 w _ _ _ _)).mono ?_); rintro e w1 ⟨rfl, hm⟩; have H1 := Lib.hid (er4 (s := s) (r := r) rfl (by first | rfl | assumption) (by first | rfl | assumption) (by first | rfl | assumption) hm); clear hm; obtain ⟨d0, d1, d2⟩ := H1.out.e.cd; obtain ⟨c0, c1, c2, c3, c4, c5, c6, c7, c8⟩ := H1.out.e.cs; obtain ⟨r0, r1, r2, r3, r4⟩ := H1.out.rc; rw [W2.out] at r2)
                | (obtain ⟨cs, hcs, hsz⟩ := H1.out.q; refine wpList_store_row rfl 26 _ _ rfl (w.heap.size + 3) 26 cs (s).arr rfl rfl hcs (sizeG _) hsz (oneG _) ?_))
              all_goals
                exact bodyPost_ret (res_sg_tmp rfl _ _ (w.heap.size + 3) (s) rfl (box_row hcs _)) rfl ⟨rfl, row_end H1.out.e.b (by omega) _⟩
        · clear hq
          cases hun : r.un with
          | false =>
            have p0 : (s.ph == 0) = false := by simpa using fun e => hw (.inl ⟨e, hun⟩)
            clear hw
            cases p1 : (s.ph == 1)
            all_goals
              go_enter Tryz.func28, Tryz.ntmps28
              go_wp2_with (first
                | (go_at_call 26; (with_reducible refine (HR.out _ (b4 w _ _ _ _)).mono ?_); rintro e w1 ⟨rfl, hm⟩; have H1 := Lib.hid (er4 (s := s) (r := r) rfl (by first | rfl | assumption) (by first | rfl | assumption) (by first | rfl | assumption) hm); clear hm; obtain ⟨d0, d1, d2⟩ := H1.out.e.cd; obtain ⟨c0, c1, c2, c3, c4, c5, c6, c7, c8⟩ := H1.out.e.cs; obtain ⟨r0, r1, r2, r3, r4⟩ := H1.out.rc; rw [hun] at r2)
                | (obtain ⟨cs, hcs, hsz⟩ := H1.out.q; refine wpList_store_row rfl 26 _ _ rfl (w.heap.size + 3) 26 cs (s).arr rfl rfl hcs (sizeG _) hsz (oneG _) ?_))
              all_goals
                exact bodyPost_ret (res_sg_tmp rfl _ _ (w.heap.size + 3) (s) rfl (box_row hcs _)) rfl ⟨rfl, row_end H1.out.e.b (by omega) _⟩
          | true =>
            have p1 : (s.ph == 1) = false := by simpa using fun e => hw (.inr ⟨e, hun⟩)
            clear hw
            cases p0 : (s.ph == 0)
            all_goals
              go_enter Tryz.func28, Tryz.ntmps28
              go_wp2_with (first
                | (go_at_call 26; (with_reducible refine (HR.out _ (b4 w _ _ _ _)).mono ?_); rintro e w1 ⟨rfl, hm⟩; have H1 := Lib.hid (er4 (s := s) (r := r) rfl (by first | rfl | assumption) (by first | rfl | assumption) (by first | rfl | assumption) hm); clear hm; obtain ⟨d0, d1, d2⟩ := H1.out.e.cd; obtain ⟨c0, c1, c2, c3, c4, c5, c6, c7, c8⟩ := H1.out.e.cs; obtain ⟨r0, r1, r2, r3, r4⟩ := H1.out.rc; rw [hun] at r2)
                | (obtain ⟨cs, hcs, hsz⟩ := H1.out.q; refine wpList_store_row rfl 26 _ _ rfl (w.heap.size + 3) 26 cs (s).arr rfl rfl hcs (sizeG _) hsz (oneG _) ?_))
              all_goals
                exact bodyPost_ret (res_sg_tmp rfl _ _ (w.heap.size + 3) (s) rfl (box_row hcs _)) rfl ⟨rfl, row_end H1.out.e.b (by omega) _⟩
    · have g1 : (r.sg != s.id) = true := by simpa using h1
      have hX : replyA nm dl ss s r now = (s, 7) := by unfold replyA; rw [if_neg (by simpa using h0), if_pos h1]
      rw [hX]
      clear hX hr hd ht h0 h1
      go_enter Tryz.func28, Tryz.ntmps28
      go_wp2_with (first
        | (go_at_call 26; (with_reducible refine (HR.out _ (b4 w _ _ _ _)).mono ?_); rintro e w1 ⟨rfl, hm⟩; have H1 := Lib.hid (er4 (s := s) (r := r) rfl (by first | rfl | assumption) (by first | rfl | assumption) (by first | rfl | assumption) hm); clear hm; obtain ⟨d0, d1, d2⟩ := H1.out.e.cd; obtain ⟨c0, c1, c2, c3, c4, c5, c6, c7, c8⟩ := H1.out.e.cs; obtain ⟨r0, r1, r2, r3, r4⟩ := H1.out.rc)
        | (obtain ⟨cs, hcs, hsz⟩ := H1.out.q; refine wpList_store_row rfl 26 _ _ rfl (w.heap.size + 3) 26 cs (s).arr rfl rfl hcs (sizeG _) hsz (oneG _) ?_))
      exact bodyPost_ret (res_sg_tmp rfl _ _ (w.heap.size + 3) (s) rfl (box_row hcs _)) rfl ⟨rfl, row_end H1.out.e.b (by omega) _⟩
  · have g0 : (refE nm dl ss s now != 0) = true := by simpa using h0
    have hX : replyA nm dl ss s r now = (s, refE nm dl ss s now) := by unfold replyA; rw [if_pos h0]
    rw [hX]
    generalize refE nm dl ss s now = q at *
    clear hX hd ht h0
    go_enter Tryz.func28, Tryz.ntmps28
    go_wp2_with (first
      | (go_at_call 26; (with_reducible refine (HR.out _ (b4 w _ _ _ _)).mono ?_); rintro e w1 ⟨rfl, hm⟩; have H1 := Lib.hid (er4 (s := s) (r := r) rfl (by first | rfl | assumption) (by first | rfl | assumption) (by first | rfl | assumption) hm); clear hm; obtain ⟨d0, d1, d2⟩ := H1.out.e.cd; obtain ⟨c0, c1, c2, c3, c4, c5, c6, c7, c8⟩ := H1.out.e.cs; obtain ⟨r0, r1, r2, r3, r4⟩ := H1.out.rc)
      | (obtain ⟨cs, hcs, hsz⟩ := H1.out.q; refine wpList_store_row rfl 26 _ _ rfl (w.heap.size + 3) 26 cs (s).arr rfl rfl hcs (sizeG _) hsz (oneG _) ?_))
    exact bodyPost_ret (res_sg_tmp rfl _ _ (w.heap.size + 3) (s) rfl (box_row hcs _)) rfl ⟨rfl, row_end H1.out.e.b (by omega) _⟩
end
end Go.Proofs.YtkmldgcnbjjbcaaGreatDoor.Sa
