/-
  What Late, Expire, Cancel, Retry, Skip, Abandon and Reply of package saga answer.
  Conditions: the definition's steps lie in memory, its names are of moderate length.
-/
import Derived.Test.YteejocnogpaifaaGreatDoorSagFail
import Derived.Test.YteejocnogpaifaaGreatDoorMrg2
namespace Go.Proofs.YteejocnogpaifaaGreatDoor.Sa
open Go.RowKit Go.Sort
open Go.Proofs.YteejocnogpaifaaGreatDoor.El
open Go.Proofs.YteejocnogpaifaaGreatDoor.Bo (P Made ret_int ret_bool left wait)
open Go.Proofs.YteejocnogpaifaaGreatDoor.Df

section
variable {nm : ByteArray} {dl now : Int} {ss : List Stp} {s : Sg} {ph : Int}
theorem but_err (h : butE nm dl ss s ph now ≠ 0) : (refE nm dl ss s now ≠ 0 ∧ butE nm dl ss s ph now = refE nm dl ss s now) ∨ (refE nm dl ss s now = 0 ∧ s.ph ≠ ph ∧ butE nm dl ss s ph now = 9) := by
  unfold butE at *
  split at h
  · next hh => rw [if_pos hh]; exact .inr ⟨hh.1, hh.2, rfl⟩
  · next hh => rw [if_neg hh]; exact .inl ⟨h, rfl⟩
theorem but_ok (h : butE nm dl ss s ph now = 0) : refE nm dl ss s now = 0 ∧ s.ph = ph := by
  unfold butE at h
  split at h
  · cases h
  · next hh => exact ⟨h, Decidable.byContradiction fun e => hh ⟨h, e⟩⟩
theorem expire_err (h : butE nm dl ss s 0 now ≠ 0) : expireA nm dl ss s now = (s, butE nm dl ss s 0 now) := by
  unfold expireA
  rcases but_err h with ⟨h1, h2⟩ | ⟨h1, h2, h3⟩
  · rw [if_pos h1, h2]
  · rw [if_neg (by simpa using h1), if_pos (.inl h2), h3]
theorem cancel_err (h : butE nm dl ss s 0 now ≠ 0) : cancelA nm dl ss s now = (s, butE nm dl ss s 0 now) := by
  unfold cancelA
  rcases but_err h with ⟨h1, h2⟩ | ⟨h1, h2, h3⟩
  · rw [if_pos h1, h2]
  · rw [if_neg (by simpa using h1), if_pos h2, h3]
theorem retry_err (h : butE nm dl ss s 2 now ≠ 0) : retryA nm dl ss s now = (s, butE nm dl ss s 2 now) := by
  unfold retryA
  rcases but_err h with ⟨h1, h2⟩ | ⟨h1, h2, h3⟩
  · rw [if_pos h1, h2]
  · rw [if_neg (by simpa using h1), if_pos h2, h3]
theorem skip_err (h : butE nm dl ss s 2 now ≠ 0) : skipA nm dl ss s now = (s, butE nm dl ss s 2 now) := by
  unfold skipA
  rcases but_err h with ⟨h1, h2⟩ | ⟨h1, h2, h3⟩
  · rw [if_pos h1, h2]
  · rw [if_neg (by simpa using h1), if_pos h2, h3]
theorem abandon_err (h : butE nm dl ss s 2 now ≠ 0) : abandonA nm dl ss s now = (s, butE nm dl ss s 2 now) := by
  unfold abandonA
  rcases but_err h with ⟨h1, h2⟩ | ⟨h1, h2, h3⟩
  · rw [if_pos h1, h2]
  · rw [if_neg (by simpa using h1), if_pos h2, h3]
theorem Ed.put8 {w u : World} {A : Option Addr} {n c : Nat} (h : Ed w u nm dl A n c s) : Ed w (u.setCell ⟨w.heap.size + 1, 8, none⟩ (.int .i64 (min (s.sk + 1) 32))) nm dl A n c (skipS s) :=
  ⟨h.d.far (by show ¬ w.heap.size = w.heap.size + 1; omega) _, h.s.put 8 _, h.b.trans ⟨rfl, rfl, rfl, by simp [World.setCell], fun k hk => Below.heap_setCell u ⟨w.heap.size + 1, 8, none⟩ _ k (by show k ≠ w.heap.size + 1; omega)⟩⟩
end
section
variable (nm : ByteArray) (dl : Int) (A : Option Addr) (n c : Nat) (ss : List Stp) (s : Sg) (w : World) (hd : Dn w nm A n c ss) (now : Int) (ht : s.tr ≤ 9223372036854775807)
include hd
include ht in
set_option maxRecDepth 100000 in
set_option maxHeartbeats 4000000 in
theorem late_any : Calls Tryz.prog 80 #[.agg #[.string nm, .int .i64 dl, .slice A n c], .agg #[.int .i64 s.id, .string s.dn, .int .i64 s.st, .int .i64 s.ph, .int .i64 s.sp, .int .i64 s.tr, .bool s.out, .int .i64 s.at_, .int .i64 s.sk], .int .i64 now] w fun e w' => e = .returned (.tuple #[.agg (lateA nm dl ss s now).1.arr, .int .i64 (lateA nm dl ss s now).2]) ∧ Below w.heap.size w w' := by
  have HR := Lib.hid (fun W (hW : Below w.heap.size w W) => refusal_any nm dl A n c ss s W (hd.on hW) now)
  by_cases h0 : refE nm dl ss s now = 0
  · have hr := refE_zero h0
    have htr := good_tr hr.1 hr.2.2
    rw [h0] at HR
    by_cases hb : s.out = false ∨ now < s.at_
    · have hX : lateA nm dl ss s now = (s, 9) := by unfold lateA; rw [if_neg (by simpa using h0), if_pos hb]
      rw [hX]
      clear hX hr htr hd ht h0
      rcases hb with hb | hb
      · have g0 : (!s.out) = true := by rw [hb]; rfl
        clear hb
        go_enter Tryz.func80, Tryz.ntmps80
        go_wp2_with (first
          | (go_at_call 103; (with_reducible refine (HR.out _ (b3 w _ _ _)).mono ?_); rintro e w1 ⟨rfl, hm⟩; have H1 := Lib.hid (ed3 (s := s) hm); clear hm; obtain ⟨d0, d1, d2⟩ := H1.out.1.cd; obtain ⟨c0, c1, c2, c3, c4, c5, c6, c7, c8⟩ := H1.out.1.cs)
          | (obtain ⟨cs, hcs, hsz⟩ := H1.out.2; refine wpList_store_row rfl 49 _ _ rfl (w.heap.size + 2) 49 cs (s).arr rfl rfl hcs (sizeG _) hsz (oneG _) ?_))
        exact bodyPost_ret (res_sg_tmp rfl _ _ (w.heap.size + 2) (s) rfl (box_row hcs _)) rfl ⟨rfl, row_end H1.out.1.b (by omega) _⟩
      · by_cases hb2 : s.out = false
        · have g0 : (!s.out) = true := by rw [hb2]; rfl
          clear hb hb2
          go_enter Tryz.func80, Tryz.ntmps80
          go_wp2_with (first
            | (go_at_call 103; (with_reducible refine (HR.out _ (b3 w _ _ _)).mono ?_); rintro e w1 ⟨rfl, hm⟩; have H1 := Lib.hid (ed3 (s := s) hm); clear hm; obtain ⟨d0, d1, d2⟩ := H1.out.1.cd; obtain ⟨c0, c1, c2, c3, c4, c5, c6, c7, c8⟩ := H1.out.1.cs)
            | (obtain ⟨cs, hcs, hsz⟩ := H1.out.2; refine wpList_store_row rfl 49 _ _ rfl (w.heap.size + 2) 49 cs (s).arr rfl rfl hcs (sizeG _) hsz (oneG _) ?_))
          exact bodyPost_ret (res_sg_tmp rfl _ _ (w.heap.size + 2) (s) rfl (box_row hcs _)) rfl ⟨rfl, row_end H1.out.1.b (by omega) _⟩
        · have g0 : (!s.out) = false := by simpa using hb2
          clear hb2
          go_enter Tryz.func80, Tryz.ntmps80
          go_wp2_with (first
            | (go_at_call 103; (with_reducible refine (HR.out _ (b3 w _ _ _)).mono ?_); rintro e w1 ⟨rfl, hm⟩; have H1 := Lib.hid (ed3 (s := s) hm); clear hm; obtain ⟨d0, d1, d2⟩ := H1.out.1.cd; obtain ⟨c0, c1, c2, c3, c4, c5, c6, c7, c8⟩ := H1.out.1.cs)
            | (obtain ⟨cs, hcs, hsz⟩ := H1.out.2; refine wpList_store_row rfl 49 _ _ rfl (w.heap.size + 2) 49 cs (s).arr rfl rfl hcs (sizeG _) hsz (oneG _) ?_))
          exact bodyPost_ret (res_sg_tmp rfl _ _ (w.heap.size + 2) (s) rfl (box_row hcs _)) rfl ⟨rfl, row_end H1.out.1.b (by omega) _⟩
    · have hX : lateA nm dl ss s now = (failS ss s now, 0) := by unfold lateA; rw [if_neg (by simpa using h0), if_neg hb]
      have hout : s.out = true := by simpa using fun e => hb (.inl e)
      have hnow : ¬ now < s.at_ := fun e => hb (.inr e)
      have g0 : (!s.out) = false := by rw [hout]; rfl
      have hN := hd.en
      have hsp := hr.1.fld.sp
      have htr1 : 1 ≤ s.tr := by
        rcases hr.1.tries with h | h | h
        · have := h.2.2 hout; omega
        · rw [hout] at h; cases h.2.2
        · rw [hout] at h; cases h.2
      have HF := Lib.hid (fun W (hW : Below w.heap.size w W) => failed_any nm dl A n c ss s now W (hd.on hW) hsp.1 (by omega) (good_plan hr.1) ⟨htr1, ht⟩)
      rw [hX]
      generalize failS ss s now = X at *
      clear hX hr htr hd ht h0 hb hout hN hsp htr1
      go_enter Tryz.func80, Tryz.ntmps80
      go_wp2_with (first
        | (go_at_call 103; (with_reducible refine (HR.out _ (b3 w _ _ _)).mono ?_); rintro e w1 ⟨rfl, hm⟩; have H1 := Lib.hid (ed3 (s := s) hm); clear hm; obtain ⟨d0, d1, d2⟩ := H1.out.1.cd; obtain ⟨c0, c1, c2, c3, c4, c5, c6, c7, c8⟩ := H1.out.1.cs)
        | (go_at_call 109; (with_reducible refine (HF.out _ H1.out.1.b).mono ?_); rintro e w2 ⟨rfl, hm⟩; have H2 := Lib.hid (And.intro (H1.out.1.on hm) (slot_on H1.out.2 hm)); clear hm)
        | (obtain ⟨cs, hcs, hsz⟩ := H2.out.2; refine wpList_store_row rfl 49 _ _ rfl (w.heap.size + 2) 49 cs (X).arr rfl rfl hcs (sizeG _) hsz (oneG _) ?_))
      exact bodyPost_ret (res_sg_tmp rfl _ _ (w.heap.size + 2) (X) rfl (box_row hcs _)) rfl ⟨rfl, row_end H2.out.1.b (by omega) _⟩
  · have g0 : (refE nm dl ss s now != 0) = true := by simpa using h0
    have hX : lateA nm dl ss s now = (s, refE nm dl ss s now) := by unfold lateA; rw [if_pos h0]
    rw [hX]
    generalize refE nm dl ss s now = r at *
    clear hX hd ht h0
    go_enter Tryz.func80, Tryz.ntmps80
    go_wp2_with (first
      | (go_at_call 103; (with_reducible refine (HR.out _ (b3 w _ _ _)).mono ?_); rintro e w1 ⟨rfl, hm⟩; have H1 := Lib.hid (ed3 (s := s) hm); clear hm; obtain ⟨d0, d1, d2⟩ := H1.out.1.cd; obtain ⟨c0, c1, c2, c3, c4, c5, c6, c7, c8⟩ := H1.out.1.cs)
      | (obtain ⟨cs, hcs, hsz⟩ := H1.out.2; refine wpList_store_row rfl 49 _ _ rfl (w.heap.size + 2) 49 cs (s).arr rfl rfl hcs (sizeG _) hsz (oneG _) ?_))
    exact bodyPost_ret (res_sg_tmp rfl _ _ (w.heap.size + 2) (s) rfl (box_row hcs _)) rfl ⟨rfl, row_end H1.out.1.b (by omega) _⟩
set_option maxRecDepth 100000 in
set_option maxHeartbeats 4000000 in
theorem cancel_any : Calls Tryz.prog 82 #[.agg #[.string nm, .int .i64 dl, .slice A n c], .agg #[.int .i64 s.id, .string s.dn, .int .i64 s.st, .int .i64 s.ph, .int .i64 s.sp, .int .i64 s.tr, .bool s.out, .int .i64 s.at_, .int .i64 s.sk], .int .i64 now] w fun e w' => e = .returned (.tuple #[.agg (cancelA nm dl ss s now).1.arr, .int .i64 (cancelA nm dl ss s now).2]) ∧ Below w.heap.size w w' := by
  have HR := Lib.hid (fun W (hW : Below w.heap.size w W) => but_any nm dl A n c ss s W (hd.on hW) now 0)
  by_cases h0 : butE nm dl ss s 0 now = 0
  · have hr := refE_zero (but_ok h0).1
    have hph := (but_ok h0).2
    have hN := hd.en
    have hL := hd.len
    have hsp := hr.1.fld.sp
    have hrf := (but_ok h0).1
    rw [h0] at HR
    have hX : cancelA nm dl ss s now = (aheadS s 4 now, 0) := by unfold cancelA; rw [if_neg (by simpa using hrf), if_neg (by simpa using hph)]
    have HT := Lib.hid (turned_any s now ⟨hsp.1, by omega⟩)
    rw [hX]
    generalize aheadS s 4 now = X at *
    clear hX hr hd h0 hph hN hL hsp hrf
    go_enter Tryz.func82, Tryz.ntmps82
    go_wp2_with (first
      | (go_at_call 110; (with_reducible refine (HR.out _ (b3 w _ _ _)).mono ?_); rintro e w1 ⟨rfl, hm⟩; have H1 := Lib.hid (ed3 (s := s) hm); clear hm; obtain ⟨d0, d1, d2⟩ := H1.out.1.cd; obtain ⟨c0, c1, c2, c3, c4, c5, c6, c7, c8⟩ := H1.out.1.cs)
      | (go_at_call 112; (with_reducible refine (HT.out _).mono ?_); rintro e w2 ⟨rfl, hm⟩; have H2 := Lib.hid (And.intro (H1.out.1.on hm) (slot_on H1.out.2 hm)); clear hm)
      | (obtain ⟨cs, hcs, hsz⟩ := H2.out.2; refine wpList_store_row rfl 49 _ _ rfl (w.heap.size + 2) 49 cs (X).arr rfl rfl hcs (sizeG _) hsz (oneG _) ?_))
    exact bodyPost_ret (res_sg_tmp rfl _ _ (w.heap.size + 2) (X) rfl (box_row hcs _)) rfl ⟨rfl, row_end H2.out.1.b (by omega) _⟩
  · have g0 : (butE nm dl ss s 0 now != 0) = true := by simpa using h0
    rw [cancel_err h0]
    generalize butE nm dl ss s 0 now = r at *
    clear hd h0
    go_enter Tryz.func82, Tryz.ntmps82
    go_wp2_with (first
      | (go_at_call 110; (with_reducible refine (HR.out _ (b3 w _ _ _)).mono ?_); rintro e w1 ⟨rfl, hm⟩; have H1 := Lib.hid (ed3 (s := s) hm); clear hm; obtain ⟨d0, d1, d2⟩ := H1.out.1.cd; obtain ⟨c0, c1, c2, c3, c4, c5, c6, c7, c8⟩ := H1.out.1.cs)
      | (obtain ⟨cs, hcs, hsz⟩ := H1.out.2; refine wpList_store_row rfl 49 _ _ rfl (w.heap.size + 2) 49 cs (s).arr rfl rfl hcs (sizeG _) hsz (oneG _) ?_))
    exact bodyPost_ret (res_sg_tmp rfl _ _ (w.heap.size + 2) (s) rfl (box_row hcs _)) rfl ⟨rfl, row_end H1.out.1.b (by omega) _⟩
set_option maxRecDepth 100000 in
set_option maxHeartbeats 4000000 in
theorem retry_any : Calls Tryz.prog 83 #[.agg #[.string nm, .int .i64 dl, .slice A n c], .agg #[.int .i64 s.id, .string s.dn, .int .i64 s.st, .int .i64 s.ph, .int .i64 s.sp, .int .i64 s.tr, .bool s.out, .int .i64 s.at_, .int .i64 s.sk], .int .i64 now] w fun e w' => e = .returned (.tuple #[.agg (retryA nm dl ss s now).1.arr, .int .i64 (retryA nm dl ss s now).2]) ∧ Below w.heap.size w w' := by
  have HR := Lib.hid (fun W (hW : Below w.heap.size w W) => but_any nm dl A n c ss s W (hd.on hW) now 2)
  by_cases h0 : butE nm dl ss s 2 now = 0
  · have hr := refE_zero (but_ok h0).1
    have hph := (but_ok h0).2
    have hN := hd.en
    have hL := hd.len
    have hsp := hr.1.fld.sp
    have hrf := (but_ok h0).1
    rw [h0] at HR
    have hX : retryA nm dl ss s now = (putS s 1 s.sp now, 0) := by unfold retryA; rw [if_neg (by simpa using hrf), if_neg (by simpa using hph)]
    have HT := Lib.hid (atWork_any s 1 s.sp now)
    rw [hX]
    generalize putS s 1 s.sp now = X at *
    clear hX hr hd h0 hph hN hL hsp hrf
    go_enter Tryz.func83, Tryz.ntmps83
    go_wp2_with (first
      | (go_at_call 110; (with_reducible refine (HR.out _ (b3 w _ _ _)).mono ?_); rintro e w1 ⟨rfl, hm⟩; have H1 := Lib.hid (ed3 (s := s) hm); clear hm; obtain ⟨d0, d1, d2⟩ := H1.out.1.cd; obtain ⟨c0, c1, c2, c3, c4, c5, c6, c7, c8⟩ := H1.out.1.cs)
      | (go_at_call 113; (with_reducible refine (HT.out _).mono ?_); rintro e w2 ⟨rfl, hm⟩; have H2 := Lib.hid (And.intro (H1.out.1.on hm.below) (slot_on H1.out.2 hm.below)); clear hm)
      | (obtain ⟨cs, hcs, hsz⟩ := H2.out.2; refine wpList_store_row rfl 49 _ _ rfl (w.heap.size + 2) 49 cs (X).arr rfl rfl hcs (sizeG _) hsz (oneG _) ?_))
    exact bodyPost_ret (res_sg_tmp rfl _ _ (w.heap.size + 2) (X) rfl (box_row hcs _)) rfl ⟨rfl, row_end H2.out.1.b (by omega) _⟩
  · have g0 : (butE nm dl ss s 2 now != 0) = true := by simpa using h0
    rw [retry_err h0]
    generalize butE nm dl ss s 2 now = r at *
    clear hd h0
    go_enter Tryz.func83, Tryz.ntmps83
    go_wp2_with (first
      | (go_at_call 110; (with_reducible refine (HR.out _ (b3 w _ _ _)).mono ?_); rintro e w1 ⟨rfl, hm⟩; have H1 := Lib.hid (ed3 (s := s) hm); clear hm; obtain ⟨d0, d1, d2⟩ := H1.out.1.cd; obtain ⟨c0, c1, c2, c3, c4, c5, c6, c7, c8⟩ := H1.out.1.cs)
      | (obtain ⟨cs, hcs, hsz⟩ := H1.out.2; refine wpList_store_row rfl 49 _ _ rfl (w.heap.size + 2) 49 cs (s).arr rfl rfl hcs (sizeG _) hsz (oneG _) ?_))
    exact bodyPost_ret (res_sg_tmp rfl _ _ (w.heap.size + 2) (s) rfl (box_row hcs _)) rfl ⟨rfl, row_end H1.out.1.b (by omega) _⟩
set_option maxRecDepth 100000 in
set_option maxHeartbeats 4000000 in
theorem abandon_any : Calls Tryz.prog 85 #[.agg #[.string nm, .int .i64 dl, .slice A n c], .agg #[.int .i64 s.id, .string s.dn, .int .i64 s.st, .int .i64 s.ph, .int .i64 s.sp, .int .i64 s.tr, .bool s.out, .int .i64 s.at_, .int .i64 s.sk], .int .i64 now] w fun e w' => e = .returned (.tuple #[.agg (abandonA nm dl ss s now).1.arr, .int .i64 (abandonA nm dl ss s now).2]) ∧ Below w.heap.size w w' := by
  have HR := Lib.hid (fun W (hW : Below w.heap.size w W) => but_any nm dl A n c ss s W (hd.on hW) now 2)
  by_cases h0 : butE nm dl ss s 2 now = 0
  · have hr := refE_zero (but_ok h0).1
    have hph := (but_ok h0).2
    have hN := hd.en
    have hL := hd.len
    have hsp := hr.1.fld.sp
    have hrf := (but_ok h0).1
    rw [h0] at HR
    have hX : abandonA nm dl ss s now = (endS s 5, 0) := by unfold abandonA; rw [if_neg (by simpa using hrf), if_neg (by simpa using hph)]
    have HT := Lib.hid (ended_any s 5)
    rw [hX]
    generalize endS s 5 = X at *
    clear hX hr hd h0 hph hN hL hsp hrf
    go_enter Tryz.func85, Tryz.ntmps85
    go_wp2_with (first
      | (go_at_call 110; (with_reducible refine (HR.out _ (b3 w _ _ _)).mono ?_); rintro e w1 ⟨rfl, hm⟩; have H1 := Lib.hid (ed3 (s := s) hm); clear hm; obtain ⟨d0, d1, d2⟩ := H1.out.1.cd; obtain ⟨c0, c1, c2, c3, c4, c5, c6, c7, c8⟩ := H1.out.1.cs)
      | (go_at_call 114; (with_reducible refine (HT.out _).mono ?_); rintro e w2 ⟨rfl, hm⟩; have H2 := Lib.hid (And.intro (H1.out.1.on hm.below) (slot_on H1.out.2 hm.below)); clear hm)
      | (obtain ⟨cs, hcs, hsz⟩ := H2.out.2; refine wpList_store_row rfl 49 _ _ rfl (w.heap.size + 2) 49 cs (X).arr rfl rfl hcs (sizeG _) hsz (oneG _) ?_))
    exact bodyPost_ret (res_sg_tmp rfl _ _ (w.heap.size + 2) (X) rfl (box_row hcs _)) rfl ⟨rfl, row_end H2.out.1.b (by omega) _⟩
  · have g0 : (butE nm dl ss s 2 now != 0) = true := by simpa using h0
    rw [abandon_err h0]
    generalize butE nm dl ss s 2 now = r at *
    clear hd h0
    go_enter Tryz.func85, Tryz.ntmps85
    go_wp2_with (first
      | (go_at_call 110; (with_reducible refine (HR.out _ (b3 w _ _ _)).mono ?_); rintro e w1 ⟨rfl, hm⟩; have H1 := Lib.hid (ed3 (s := s) hm); clear hm; obtain ⟨d0, d1, d2⟩ := H1.out.1.cd; obtain ⟨c0, c1, c2, c3, c4, c5, c6, c7, c8⟩ := H1.out.1.cs)
      | (obtain ⟨cs, hcs, hsz⟩ := H1.out.2; refine wpList_store_row rfl 49 _ _ rfl (w.heap.size + 2) 49 cs (s).arr rfl rfl hcs (sizeG _) hsz (oneG _) ?_))
    exact bodyPost_ret (res_sg_tmp rfl _ _ (w.heap.size + 2) (s) rfl (box_row hcs _)) rfl ⟨rfl, row_end H1.out.1.b (by omega) _⟩
set_option maxRecDepth 100000 in
set_option maxHeartbeats 4000000 in
theorem skip_any : Calls Tryz.prog 84 #[.agg #[.string nm, .int .i64 dl, .slice A n c], .agg #[.int .i64 s.id, .string s.dn, .int .i64 s.st, .int .i64 s.ph, .int .i64 s.sp, .int .i64 s.tr, .bool s.out, .int .i64 s.at_, .int .i64 s.sk], .int .i64 now] w fun e w' => e = .returned (.tuple #[.agg (skipA nm dl ss s now).1.arr, .int .i64 (skipA nm dl ss s now).2]) ∧ Below w.heap.size w w' := by
  have HR := Lib.hid (fun W (hW : Below w.heap.size w W) => but_any nm dl A n c ss s W (hd.on hW) now 2)
  by_cases h0 : butE nm dl ss s 2 now = 0
  · have hr := refE_zero (but_ok h0).1
    have hph := (but_ok h0).2
    have hN := hd.en
    have hL := hd.len
    have hsp := hr.1.fld.sp
    have hrf := (but_ok h0).1
    rw [h0] at HR
    have hX : skipA nm dl ss s now = (doneS n (skipS s) now, 0) := by unfold skipA; rw [if_neg (by simpa using hrf), if_neg (by simpa using hph), hN]
    have HT := Lib.hid (done_any nm dl A n c (skipS s) now ⟨hsp.1, by show s.sp < _; omega⟩ hL)
    have hsk := hr.1.fld.sk
    rw [hX]
    generalize doneS n (skipS s) now = X at *
    unfold skipS at HT
    clear hX hr hd h0 hph hN hL hsp hrf
    go_enter Tryz.func84, Tryz.ntmps84
    go_wp2_with (first
      | (go_at_call 110; (with_reducible refine (HR.out _ (b3 w _ _ _)).mono ?_); rintro e w1 ⟨rfl, hm⟩; have H1 := Lib.hid (ed3 (s := s) hm); clear hm; obtain ⟨d0, d1, d2⟩ := H1.out.1.cd; obtain ⟨c0, c1, c2, c3, c4, c5, c6, c7, c8⟩ := H1.out.1.cs; have f8 := H1.out.1.s.frozen 8; have hls := H1.out.1.s.lt)
      | (go_at_call 108; (with_reducible refine (HT.out _).mono ?_); rintro e w2 ⟨rfl, hm⟩; have H2 := Lib.hid (And.intro (H1.out.1.put8.on hm) (slot_on (slot_far H1.out.2 (p := ⟨w.heap.size + 1, 8, none⟩) (by show w.heap.size + 2 ≠ w.heap.size + 1; omega) _) hm)); clear hm)
      | (obtain ⟨cs, hcs, hsz⟩ := H2.out.2; refine wpList_store_row rfl 49 _ _ rfl (w.heap.size + 2) 49 cs (X).arr rfl rfl hcs (sizeG _) hsz (oneG _) ?_))
    exact bodyPost_ret (res_sg_tmp rfl _ _ (w.heap.size + 2) (X) rfl (box_row hcs _)) rfl ⟨rfl, row_end H2.out.1.b (by omega) _⟩
  · have g0 : (butE nm dl ss s 2 now != 0) = true := by simpa using h0
    rw [skip_err h0]
    generalize butE nm dl ss s 2 now = r at *
    clear hd h0
    go_enter Tryz.func84, Tryz.ntmps84
    go_wp2_with (first
      | (go_at_call 110; (with_reducible refine (HR.out _ (b3 w _ _ _)).mono ?_); rintro e w1 ⟨rfl, hm⟩; have H1 := Lib.hid (ed3 (s := s) hm); clear hm; obtain ⟨d0, d1, d2⟩ := H1.out.1.cd; obtain ⟨c0, c1, c2, c3, c4, c5, c6, c7, c8⟩ := H1.out.1.cs)
      | (obtain ⟨cs, hcs, hsz⟩ := H1.out.2; refine wpList_store_row rfl 49 _ _ rfl (w.heap.size + 2) 49 cs (s).arr rfl rfl hcs (sizeG _) hsz (oneG _) ?_))
    exact bodyPost_ret (res_sg_tmp rfl _ _ (w.heap.size + 2) (s) rfl (box_row hcs _)) rfl ⟨rfl, row_end H1.out.1.b (by omega) _⟩
set_option maxRecDepth 100000 in
set_option maxHeartbeats 4000000 in
theorem expire_any : Calls Tryz.prog 81 #[.agg #[.string nm, .int .i64 dl, .slice A n c], .agg #[.int .i64 s.id, .string s.dn, .int .i64 s.st, .int .i64 s.ph, .int .i64 s.sp, .int .i64 s.tr, .bool s.out, .int .i64 s.at_, .int .i64 s.sk], .int .i64 now] w fun e w' => e = .returned (.tuple #[.agg (expireA nm dl ss s now).1.arr, .int .i64 (expireA nm dl ss s now).2]) ∧ Below w.heap.size w w' := by
  have HR := Lib.hid (fun W (hW : Below w.heap.size w W) => but_any nm dl A n c ss s W (hd.on hW) now 0)
  have HE := Lib.hid (fun W => end_any nm dl A n c s.st W)
  have HEq : Hid (expireA nm dl ss s now = if refE nm dl ss s now ≠ 0 then (s, refE nm dl ss s now) else if s.ph ≠ 0 ∨ now < endT dl s.st then (s, 9) else (aheadS s 4 now, 0)) := Lib.hid rfl
  by_cases h0 : butE nm dl ss s 0 now = 0
  · have hr := refE_zero (but_ok h0).1
    have hph := (but_ok h0).2
    have hN := hd.en
    have hL := hd.len
    have hsp := hr.1.fld.sp
    have hrf := (but_ok h0).1
    have HT := Lib.hid (turned_any s now ⟨hsp.1, by omega⟩)
    rw [h0] at HR
    by_cases hb : now < endT dl s.st
    · have hX : expireA nm dl ss s now = (s, 9) := by rw [HEq.out, if_neg (by simpa using hrf), if_pos (.inr hb)]
      rw [hX]
      generalize endT dl s.st = T at *
      clear hX hr hd h0 hph hN hL hsp hrf HEq HT
      go_enter Tryz.func81, Tryz.ntmps81
      go_wp2_with (first
        | (go_at_call 110; (with_reducible refine (HR.out _ (b3 w _ _ _)).mono ?_); rintro e w1 ⟨rfl, hm⟩; have H1 := Lib.hid (ed3 (s := s) hm); clear hm; obtain ⟨d0, d1, d2⟩ := H1.out.1.cd; obtain ⟨c0, c1, c2, c3, c4, c5, c6, c7, c8⟩ := H1.out.1.cs)
        | (go_at_call 111; (with_reducible refine (HE.out _).mono ?_); rintro e w2 ⟨rfl, hm⟩; have H2 := Lib.hid (And.intro (H1.out.1.on hm.below) (slot_on H1.out.2 hm.below)); clear hm; obtain ⟨d0, d1, d2⟩ := H2.out.1.cd; obtain ⟨c0, c1, c2, c3, c4, c5, c6, c7, c8⟩ := H2.out.1.cs)
        | (obtain ⟨cs, hcs, hsz⟩ := H2.out.2; refine wpList_store_row rfl 49 _ _ rfl (w.heap.size + 2) 49 cs (s).arr rfl rfl hcs (sizeG _) hsz (oneG _) ?_))
      exact bodyPost_ret (res_sg_tmp rfl _ _ (w.heap.size + 2) (s) rfl (box_row hcs _)) rfl ⟨rfl, row_end H2.out.1.b (by omega) _⟩
    · have hX : expireA nm dl ss s now = (aheadS s 4 now, 0) := by rw [HEq.out, if_neg (by simpa using hrf), if_neg (fun e => e.elim (fun e => e hph) hb)]
      rw [hX]
      generalize endT dl s.st = T at *
      generalize aheadS s 4 now = X at *
      clear hX hr hd h0 hph hN hL hsp hrf HEq
      go_enter Tryz.func81, Tryz.ntmps81
      go_wp2_with (first
        | (go_at_call 110; (with_reducible refine (HR.out _ (b3 w _ _ _)).mono ?_); rintro e w1 ⟨rfl, hm⟩; have H1 := Lib.hid (ed3 (s := s) hm); clear hm; obtain ⟨d0, d1, d2⟩ := H1.out.1.cd; obtain ⟨c0, c1, c2, c3, c4, c5, c6, c7, c8⟩ := H1.out.1.cs)
        | (go_at_call 111; (with_reducible refine (HE.out _).mono ?_); rintro e w2 ⟨rfl, hm⟩; have H2 := Lib.hid (And.intro (H1.out.1.on hm.below) (slot_on H1.out.2 hm.below)); clear hm; obtain ⟨d0, d1, d2⟩ := H2.out.1.cd; obtain ⟨c0, c1, c2, c3, c4, c5, c6, c7, c8⟩ := H2.out.1.cs)
        | (go_at_call 112; (with_reducible refine (HT.out _).mono ?_); rintro e w3 ⟨rfl, hm⟩; have H3 := Lib.hid (And.intro (H2.out.1.on hm) (slot_on H2.out.2 hm)); clear hm)
        | (obtain ⟨cs, hcs, hsz⟩ := H3.out.2; refine wpList_store_row rfl 49 _ _ rfl (w.heap.size + 2) 49 cs (X).arr rfl rfl hcs (sizeG _) hsz (oneG _) ?_))
      exact bodyPost_ret (res_sg_tmp rfl _ _ (w.heap.size + 2) (X) rfl (box_row hcs _)) rfl ⟨rfl, row_end H3.out.1.b (by omega) _⟩
  · have g0 : (butE nm dl ss s 0 now != 0) = true := by simpa using h0
    rw [expire_err h0]
    generalize butE nm dl ss s 0 now = r at *
    clear hd h0 HEq
    go_enter Tryz.func81, Tryz.ntmps81
    go_wp2_with (first
      | (go_at_call 110; (with_reducible refine (HR.out _ (b3 w _ _ _)).mono ?_); rintro e w1 ⟨rfl, hm⟩; have H1 := Lib.hid (ed3 (s := s) hm); clear hm; obtain ⟨d0, d1, d2⟩ := H1.out.1.cd; obtain ⟨c0, c1, c2, c3, c4, c5, c6, c7, c8⟩ := H1.out.1.cs)
      | (obtain ⟨cs, hcs, hsz⟩ := H1.out.2; refine wpList_store_row rfl 49 _ _ rfl (w.heap.size + 2) 49 cs (s).arr rfl rfl hcs (sizeG _) hsz (oneG _) ?_))
    exact bodyPost_ret (res_sg_tmp rfl _ _ (w.heap.size + 2) (s) rfl (box_row hcs _)) rfl ⟨rfl, row_end H1.out.1.b (by omega) _⟩
end
end Go.Proofs.YteejocnogpaifaaGreatDoor.Sa
