/-
  What the document's own Do and May of a saga answer.
  Conditions: the definition's steps lie in memory, its names are of moderate length.
-/
import Derived.Test.YteejocnogpaifaaGreatDoorSagFail
import Derived.Test.YteejocnogpaifaaGreatDoorSagRGood
import Derived.Test.YteejocnogpaifaaGreatDoorMrg2
import Derived.Deep.RegionHeld3
namespace Go.Proofs.YteejocnogpaifaaGreatDoor.Sa
open Go.RowKit Go.Sort
open Go.Proofs.YteejocnogpaifaaGreatDoor.El
open Go.Proofs.YteejocnogpaifaaGreatDoor.Bo (P Made ret_int ret_bool left wait)
open Go.Proofs.YteejocnogpaifaaGreatDoor.Df

theorem Ed.put8' {w u : World} {nm : ByteArray} {dl : Int} {A : Option Addr} {n c : Nat} {s : Sg} (y : Int) (h : Ed w u nm dl A n c s) : Ed w (u.setCell ⟨w.heap.size + 1, 8, none⟩ (.int .i64 y)) nm dl A n c ⟨s.id, s.dn, s.st, s.ph, s.sp, s.tr, s.out, s.at_, y⟩ :=
  ⟨h.d.far (by show ¬ w.heap.size = w.heap.size + 1; omega) _, h.s.put 8 _, h.b.trans ⟨rfl, rfl, rfl, by simp [World.setCell], fun k hk => Below.heap_setCell u ⟨w.heap.size + 1, 8, none⟩ _ k (by show k ≠ w.heap.size + 1; omega)⟩⟩
section
variable (nm : ByteArray) (dl : Int) (A : Option Addr) (n c : Nat) (ss : List Stp) (s : Sg) (w : World) (hd : Dn w nm A n c ss) (k now : Int)
include hd
set_option maxRecDepth 100000 in
set_option maxHeartbeats 8000000 in
theorem rlate_any (ht : s.tr ≤ 9223372036854775807) (h0 : refE nm dl ss s now = 0) : Calls Tryz.prog 28 #[.agg #[.string nm, .int .i64 dl, .slice A n c], .agg #[.int .i64 s.id, .string s.dn, .int .i64 s.st, .int .i64 s.ph, .int .i64 s.sp, .int .i64 s.tr, .bool s.out, .int .i64 s.at_, .int .i64 s.sk], .int .i64 0, .int .i64 now] w fun e w' => e = .returned (.tuple #[.agg (lateA nm dl ss s now).1.arr, .int .i64 (lateA nm dl ss s now).2]) ∧ Below w.heap.size w w' := by
  have HR := Lib.hid (fun W (hW : Below w.heap.size w W) => rcheck14_any nm dl A n c ss s W (hd.on hW) now)
  have hr := refE_zero h0
  have hN := hd.en
  have hL := hd.len
  have hsp := hr.1.fld.sp
  have htr := good_tr hr.1 hr.2.2
  rw [h0] at HR
  by_cases ho : s.out = true
  · by_cases hb : now < s.at_
    · have hX : lateA nm dl ss s now = (s, 9) := by unfold lateA; rw [if_neg (by simpa using h0), if_pos (.inr hb)]
      have he : (s, (9 : Int)) = (outS s true, 9) := by rw [← outS_self ho]
      rw [hX, he]
      have HO := Lib.hid ho
      clear ho hX he hr hd h0 hN hL hsp htr
      go_enter Tryz.func28, Tryz.ntmps28
      go_wp2_with (first
        | (go_at_call 23; (with_reducible refine (HR.out _ (b3 w _ _ _)).mono ?_); rintro e w1 ⟨rfl, hm⟩; have H1 := Lib.hid (ed3 (s := s) hm); clear hm; obtain ⟨d0, d1, d2⟩ := H1.out.1.cd; obtain ⟨c0, c1, c2, c3, c4, c5, c6, c7, c8⟩ := H1.out.1.cs; rw [HO.out] at c6)
        | (obtain ⟨cs, hcs, hsz⟩ := H1.out.2; refine wpList_store_row rfl 49 _ _ rfl (w.heap.size + 2) 49 cs (outS s true).arr rfl rfl hcs (sizeG _) hsz (oneG _) ?_))
      exact bodyPost_ret (res_sg_tmp rfl _ _ (w.heap.size + 2) (outS s true) rfl (box_row hcs _)) rfl ⟨rfl, row_end H1.out.1.b (by omega) _⟩
    · have htr1 : 1 ≤ s.tr := by
        rcases hr.1.tries with h | h | h
        · have := h.2.2 ho; omega
        · rw [ho] at h; cases h.2.2
        · rw [ho] at h; cases h.2
      have hX : lateA nm dl ss s now = (failS ss s now, 0) := by unfold lateA; rw [if_neg (by simpa using h0), if_neg (fun e => e.elim (fun e => by rw [ho] at e; cases e) hb)]
      have HF := Lib.hid (fun W (hW : Below w.heap.size w W) => fails_any nm dl A n c ss s now W (hd.on hW) hsp.1 (by omega) (good_plan hr.1) ⟨htr1, ht⟩)
      rw [hX]
      generalize failS ss s now = X at *
      rw [ho] at HF
      have HO := Lib.hid ho
      clear ho hX htr1 hr hd h0 hN hL hsp htr
      go_enter Tryz.func28, Tryz.ntmps28
      go_wp2_with (first
        | (go_at_call 23; (with_reducible refine (HR.out _ (b3 w _ _ _)).mono ?_); rintro e w1 ⟨rfl, hm⟩; have H1 := Lib.hid (ed3 (s := s) hm); clear hm; obtain ⟨d0, d1, d2⟩ := H1.out.1.cd; obtain ⟨c0, c1, c2, c3, c4, c5, c6, c7, c8⟩ := H1.out.1.cs; rw [HO.out] at c6)
        | (go_at_call 59; (with_reducible refine (HF.out _ H1.out.1.b).mono ?_); rintro e w2 ⟨rfl, hm⟩; have H2 := Lib.hid (And.intro (H1.out.1.on hm) (slot_on H1.out.2 hm)); clear hm)
        | (obtain ⟨cs, hcs, hsz⟩ := H2.out.2; refine wpList_store_row rfl 49 _ _ rfl (w.heap.size + 2) 49 cs (X).arr rfl rfl hcs (sizeG _) hsz (oneG _) ?_))
      exact bodyPost_ret (res_sg_tmp rfl _ _ (w.heap.size + 2) (X) rfl (box_row hcs _)) rfl ⟨rfl, row_end H2.out.1.b (by omega) _⟩
  · have ho' : s.out = false := by simpa using ho
    have hX : lateA nm dl ss s now = (s, 9) := by unfold lateA; rw [if_neg (by simpa using h0), if_pos (.inl ho')]
    have he : (s, (9 : Int)) = (outS s false, 9) := by rw [← outS_self ho']
    rw [hX, he]
    have HO := Lib.hid ho'
    clear ho ho' hX he hr hd h0 hN hL hsp htr
    go_enter Tryz.func28, Tryz.ntmps28
    go_wp2_with (first
      | (go_at_call 23; (with_reducible refine (HR.out _ (b3 w _ _ _)).mono ?_); rintro e w1 ⟨rfl, hm⟩; have H1 := Lib.hid (ed3 (s := s) hm); clear hm; obtain ⟨d0, d1, d2⟩ := H1.out.1.cd; obtain ⟨c0, c1, c2, c3, c4, c5, c6, c7, c8⟩ := H1.out.1.cs; rw [HO.out] at c6)
      | (obtain ⟨cs, hcs, hsz⟩ := H1.out.2; refine wpList_store_row rfl 49 _ _ rfl (w.heap.size + 2) 49 cs (outS s false).arr rfl rfl hcs (sizeG _) hsz (oneG _) ?_))
    exact bodyPost_ret (res_sg_tmp rfl _ _ (w.heap.size + 2) (outS s false) rfl (box_row hcs _)) rfl ⟨rfl, row_end H1.out.1.b (by omega) _⟩
set_option maxRecDepth 100000 in
set_option maxHeartbeats 8000000 in
theorem rexpire_any (h0 : refE nm dl ss s now = 0) : Calls Tryz.prog 28 #[.agg #[.string nm, .int .i64 dl, .slice A n c], .agg #[.int .i64 s.id, .string s.dn, .int .i64 s.st, .int .i64 s.ph, .int .i64 s.sp, .int .i64 s.tr, .bool s.out, .int .i64 s.at_, .int .i64 s.sk], .int .i64 1, .int .i64 now] w fun e w' => e = .returned (.tuple #[.agg (expireA nm dl ss s now).1.arr, .int .i64 (expireA nm dl ss s now).2]) ∧ Below w.heap.size w w' := by
  have HR := Lib.hid (fun W (hW : Below w.heap.size w W) => rcheck14_any nm dl A n c ss s W (hd.on hW) now)
  have hr := refE_zero h0
  have hN := hd.en
  have hL := hd.len
  have hsp := hr.1.fld.sp
  have htr := good_tr hr.1 hr.2.2
  rw [h0] at HR
  have HE := Lib.hid (fun W => rend_any nm dl A n c s.st W)
  have HEq : Hid (expireA nm dl ss s now = if refE nm dl ss s now ≠ 0 then (s, refE nm dl ss s now) else if s.ph ≠ 0 ∨ now < endT dl s.st then (s, 9) else (aheadS s 4 now, 0)) := Lib.hid rfl
  by_cases hp : s.ph = 0
  · have p0 : (s.ph == 0) = true := by simpa using hp
    by_cases hb : now < endT dl s.st
    · have hX : expireA nm dl ss s now = (s, 9) := by rw [HEq.out, if_neg (by simpa using h0), if_pos (.inr hb)]
      rw [hX]
      generalize endT dl s.st = T at *
      clear hp hX HEq hr hd h0 hN hL hsp htr
      go_enter Tryz.func28, Tryz.ntmps28
      go_wp2_with (first
        | (go_at_call 23; (with_reducible refine (HR.out _ (b3 w _ _ _)).mono ?_); rintro e w1 ⟨rfl, hm⟩; have H1 := Lib.hid (ed3 (s := s) hm); clear hm; obtain ⟨d0, d1, d2⟩ := H1.out.1.cd; obtain ⟨c0, c1, c2, c3, c4, c5, c6, c7, c8⟩ := H1.out.1.cs)
        | (go_at_call 55; (with_reducible refine (HE.out _).mono ?_); rintro e w2 ⟨rfl, hm⟩; have H2 := Lib.hid (And.intro (H1.out.1.on hm.below) (slot_on H1.out.2 hm.below)); clear hm; obtain ⟨d0, d1, d2⟩ := H2.out.1.cd; obtain ⟨c0, c1, c2, c3, c4, c5, c6, c7, c8⟩ := H2.out.1.cs)
        | (obtain ⟨cs, hcs, hsz⟩ := H2.out.2; refine wpList_store_row rfl 49 _ _ rfl (w.heap.size + 2) 49 cs (s).arr rfl rfl hcs (sizeG _) hsz (oneG _) ?_))
      exact bodyPost_ret (res_sg_tmp rfl _ _ (w.heap.size + 2) (s) rfl (box_row hcs _)) rfl ⟨rfl, row_end H2.out.1.b (by omega) _⟩
    · have hX : expireA nm dl ss s now = (aheadS s 4 now, 0) := by rw [HEq.out, if_neg (by simpa using h0), if_neg (fun e => e.elim (fun e => e hp) hb)]
      have HT := Lib.hid (rback_any s now ⟨hsp.1, by omega⟩)
      rw [hX]
      generalize endT dl s.st = T at *
      generalize aheadS s 4 now = X at *
      clear hp hX HEq hr hd h0 hN hL hsp htr
      go_enter Tryz.func28, Tryz.ntmps28
      go_wp2_with (first
        | (go_at_call 23; (with_reducible refine (HR.out _ (b3 w _ _ _)).mono ?_); rintro e w1 ⟨rfl, hm⟩; have H1 := Lib.hid (ed3 (s := s) hm); clear hm; obtain ⟨d0, d1, d2⟩ := H1.out.1.cd; obtain ⟨c0, c1, c2, c3, c4, c5, c6, c7, c8⟩ := H1.out.1.cs)
        | (go_at_call 55; (with_reducible refine (HE.out _).mono ?_); rintro e w2 ⟨rfl, hm⟩; have H2 := Lib.hid (And.intro (H1.out.1.on hm.below) (slot_on H1.out.2 hm.below)); clear hm; obtain ⟨d0, d1, d2⟩ := H2.out.1.cd; obtain ⟨c0, c1, c2, c3, c4, c5, c6, c7, c8⟩ := H2.out.1.cs)
        | (go_at_call 60; (with_reducible refine (HT.out _).mono ?_); rintro e w3 ⟨rfl, hm⟩; have H3 := Lib.hid (And.intro (H2.out.1.on hm) (slot_on H2.out.2 hm)); clear hm)
        | (obtain ⟨cs, hcs, hsz⟩ := H3.out.2; refine wpList_store_row rfl 49 _ _ rfl (w.heap.size + 2) 49 cs (X).arr rfl rfl hcs (sizeG _) hsz (oneG _) ?_))
      exact bodyPost_ret (res_sg_tmp rfl _ _ (w.heap.size + 2) (X) rfl (box_row hcs _)) rfl ⟨rfl, row_end H3.out.1.b (by omega) _⟩
  · have p0 : (s.ph == 0) = false := by simpa using hp
    have hX : expireA nm dl ss s now = (s, 9) := by rw [HEq.out, if_neg (by simpa using h0), if_pos (.inl hp)]
    rw [hX]
    clear hp hX HEq HE hr hd h0 hN hL hsp htr
    go_enter Tryz.func28, Tryz.ntmps28
    go_wp2_with (first
      | (go_at_call 23; (with_reducible refine (HR.out _ (b3 w _ _ _)).mono ?_); rintro e w1 ⟨rfl, hm⟩; have H1 := Lib.hid (ed3 (s := s) hm); clear hm; obtain ⟨d0, d1, d2⟩ := H1.out.1.cd; obtain ⟨c0, c1, c2, c3, c4, c5, c6, c7, c8⟩ := H1.out.1.cs)
      | (obtain ⟨cs, hcs, hsz⟩ := H1.out.2; refine wpList_store_row rfl 49 _ _ rfl (w.heap.size + 2) 49 cs (s).arr rfl rfl hcs (sizeG _) hsz (oneG _) ?_))
    exact bodyPost_ret (res_sg_tmp rfl _ _ (w.heap.size + 2) (s) rfl (box_row hcs _)) rfl ⟨rfl, row_end H1.out.1.b (by omega) _⟩
set_option maxRecDepth 100000 in
set_option maxHeartbeats 8000000 in
theorem rcancel_any (h0 : refE nm dl ss s now = 0) : Calls Tryz.prog 28 #[.agg #[.string nm, .int .i64 dl, .slice A n c], .agg #[.int .i64 s.id, .string s.dn, .int .i64 s.st, .int .i64 s.ph, .int .i64 s.sp, .int .i64 s.tr, .bool s.out, .int .i64 s.at_, .int .i64 s.sk], .int .i64 2, .int .i64 now] w fun e w' => e = .returned (.tuple #[.agg (cancelA nm dl ss s now).1.arr, .int .i64 (cancelA nm dl ss s now).2]) ∧ Below w.heap.size w w' := by
  have HR := Lib.hid (fun W (hW : Below w.heap.size w W) => rcheck14_any nm dl A n c ss s W (hd.on hW) now)
  have hr := refE_zero h0
  have hN := hd.en
  have hL := hd.len
  have hsp := hr.1.fld.sp
  have htr := good_tr hr.1 hr.2.2
  rw [h0] at HR
  by_cases hp : s.ph = 0
  · have p0 : (s.ph == 0) = true := by simpa using hp
    have hX : cancelA nm dl ss s now = (aheadS s 4 now, 0) := by unfold cancelA; rw [if_neg (by simpa using h0), if_neg (by simpa using hp)]
    have HT := Lib.hid (rback_any s now ⟨hsp.1, by omega⟩)
    rw [hX]
    generalize aheadS s 4 now = X at *
    clear hp hX hr hd h0 hN hL hsp htr
    go_enter Tryz.func28, Tryz.ntmps28
    go_wp2_with (first
      | (go_at_call 23; (with_reducible refine (HR.out _ (b3 w _ _ _)).mono ?_); rintro e w1 ⟨rfl, hm⟩; have H1 := Lib.hid (ed3 (s := s) hm); clear hm; obtain ⟨d0, d1, d2⟩ := H1.out.1.cd; obtain ⟨c0, c1, c2, c3, c4, c5, c6, c7, c8⟩ := H1.out.1.cs)
      | (go_at_call 60; (with_reducible refine (HT.out _).mono ?_); rintro e w2 ⟨rfl, hm⟩; have H2 := Lib.hid (And.intro (H1.out.1.on hm) (slot_on H1.out.2 hm)); clear hm)
      | (obtain ⟨cs, hcs, hsz⟩ := H2.out.2; refine wpList_store_row rfl 49 _ _ rfl (w.heap.size + 2) 49 cs (X).arr rfl rfl hcs (sizeG _) hsz (oneG _) ?_))
    exact bodyPost_ret (res_sg_tmp rfl _ _ (w.heap.size + 2) (X) rfl (box_row hcs _)) rfl ⟨rfl, row_end H2.out.1.b (by omega) _⟩
  · have p0 : (s.ph == 0) = false := by simpa using hp
    have hX : cancelA nm dl ss s now = (s, 9) := by unfold cancelA; rw [if_neg (by simpa using h0), if_pos hp]
    rw [hX]
    clear hp hX hr hd h0 hN hL hsp htr
    go_enter Tryz.func28, Tryz.ntmps28
    go_wp2_with (first
      | (go_at_call 23; (with_reducible refine (HR.out _ (b3 w _ _ _)).mono ?_); rintro e w1 ⟨rfl, hm⟩; have H1 := Lib.hid (ed3 (s := s) hm); clear hm; obtain ⟨d0, d1, d2⟩ := H1.out.1.cd; obtain ⟨c0, c1, c2, c3, c4, c5, c6, c7, c8⟩ := H1.out.1.cs)
      | (obtain ⟨cs, hcs, hsz⟩ := H1.out.2; refine wpList_store_row rfl 49 _ _ rfl (w.heap.size + 2) 49 cs (s).arr rfl rfl hcs (sizeG _) hsz (oneG _) ?_))
    exact bodyPost_ret (res_sg_tmp rfl _ _ (w.heap.size + 2) (s) rfl (box_row hcs _)) rfl ⟨rfl, row_end H1.out.1.b (by omega) _⟩
set_option maxRecDepth 100000 in
set_option maxHeartbeats 8000000 in
theorem rretry_any (h0 : refE nm dl ss s now = 0) : Calls Tryz.prog 28 #[.agg #[.string nm, .int .i64 dl, .slice A n c], .agg #[.int .i64 s.id, .string s.dn, .int .i64 s.st, .int .i64 s.ph, .int .i64 s.sp, .int .i64 s.tr, .bool s.out, .int .i64 s.at_, .int .i64 s.sk], .int .i64 3, .int .i64 now] w fun e w' => e = .returned (.tuple #[.agg (retryA nm dl ss s now).1.arr, .int .i64 (retryA nm dl ss s now).2]) ∧ Below w.heap.size w w' := by
  have HR := Lib.hid (fun W (hW : Below w.heap.size w W) => rcheck14_any nm dl A n c ss s W (hd.on hW) now)
  have hr := refE_zero h0
  have hN := hd.en
  have hL := hd.len
  have hsp := hr.1.fld.sp
  have htr := good_tr hr.1 hr.2.2
  rw [h0] at HR
  by_cases hp : s.ph = 2
  · have p0 : (s.ph == 2) = true := by simpa using hp
    have hX : retryA nm dl ss s now = (putS s 1 s.sp now, 0) := by unfold retryA; rw [if_neg (by simpa using h0), if_neg (by simpa using hp)]
    have HT := Lib.hid (rput_any s 1 s.sp now)
    rw [hX]
    generalize putS s 1 s.sp now = X at *
    clear hp hX hr hd h0 hN hL hsp htr
    go_enter Tryz.func28, Tryz.ntmps28
    go_wp2_with (first
      | (go_at_call 23; (with_reducible refine (HR.out _ (b3 w _ _ _)).mono ?_); rintro e w1 ⟨rfl, hm⟩; have H1 := Lib.hid (ed3 (s := s) hm); clear hm; obtain ⟨d0, d1, d2⟩ := H1.out.1.cd; obtain ⟨c0, c1, c2, c3, c4, c5, c6, c7, c8⟩ := H1.out.1.cs)
      | (go_at_call 61; (with_reducible refine (HT.out _).mono ?_); rintro e w2 ⟨rfl, hm⟩; have H2 := Lib.hid (And.intro (H1.out.1.on hm.below) (slot_on H1.out.2 hm.below)); clear hm)
      | (obtain ⟨cs, hcs, hsz⟩ := H2.out.2; refine wpList_store_row rfl 49 _ _ rfl (w.heap.size + 2) 49 cs (X).arr rfl rfl hcs (sizeG _) hsz (oneG _) ?_))
    exact bodyPost_ret (res_sg_tmp rfl _ _ (w.heap.size + 2) (X) rfl (box_row hcs _)) rfl ⟨rfl, row_end H2.out.1.b (by omega) _⟩
  · have p0 : (s.ph == 2) = false := by simpa using hp
    have hX : retryA nm dl ss s now = (s, 9) := by unfold retryA; rw [if_neg (by simpa using h0), if_pos hp]
    rw [hX]
    clear hp hX hr hd h0 hN hL hsp htr
    go_enter Tryz.func28, Tryz.ntmps28
    go_wp2_with (first
      | (go_at_call 23; (with_reducible refine (HR.out _ (b3 w _ _ _)).mono ?_); rintro e w1 ⟨rfl, hm⟩; have H1 := Lib.hid (ed3 (s := s) hm); clear hm; obtain ⟨d0, d1, d2⟩ := H1.out.1.cd; obtain ⟨c0, c1, c2, c3, c4, c5, c6, c7, c8⟩ := H1.out.1.cs)
      | (obtain ⟨cs, hcs, hsz⟩ := H1.out.2; refine wpList_store_row rfl 49 _ _ rfl (w.heap.size + 2) 49 cs (s).arr rfl rfl hcs (sizeG _) hsz (oneG _) ?_))
    exact bodyPost_ret (res_sg_tmp rfl _ _ (w.heap.size + 2) (s) rfl (box_row hcs _)) rfl ⟨rfl, row_end H1.out.1.b (by omega) _⟩
set_option maxRecDepth 100000 in
set_option maxHeartbeats 8000000 in
theorem rabandon_any (h0 : refE nm dl ss s now = 0) : Calls Tryz.prog 28 #[.agg #[.string nm, .int .i64 dl, .slice A n c], .agg #[.int .i64 s.id, .string s.dn, .int .i64 s.st, .int .i64 s.ph, .int .i64 s.sp, .int .i64 s.tr, .bool s.out, .int .i64 s.at_, .int .i64 s.sk], .int .i64 5, .int .i64 now] w fun e w' => e = .returned (.tuple #[.agg (abandonA nm dl ss s now).1.arr, .int .i64 (abandonA nm dl ss s now).2]) ∧ Below w.heap.size w w' := by
  have HR := Lib.hid (fun W (hW : Below w.heap.size w W) => rcheck14_any nm dl A n c ss s W (hd.on hW) now)
  have hr := refE_zero h0
  have hN := hd.en
  have hL := hd.len
  have hsp := hr.1.fld.sp
  have htr := good_tr hr.1 hr.2.2
  rw [h0] at HR
  by_cases hp : s.ph = 2
  · have p0 : (s.ph == 2) = true := by simpa using hp
    have hX : abandonA nm dl ss s now = (endS s 5, 0) := by unfold abandonA; rw [if_neg (by simpa using h0), if_neg (by simpa using hp)]
    have HT := Lib.hid (rend14_any s 5)
    rw [hX]
    generalize endS s 5 = X at *
    clear hp hX hr hd h0 hN hL hsp htr
    go_enter Tryz.func28, Tryz.ntmps28
    go_wp2_with (first
      | (go_at_call 23; (with_reducible refine (HR.out _ (b3 w _ _ _)).mono ?_); rintro e w1 ⟨rfl, hm⟩; have H1 := Lib.hid (ed3 (s := s) hm); clear hm; obtain ⟨d0, d1, d2⟩ := H1.out.1.cd; obtain ⟨c0, c1, c2, c3, c4, c5, c6, c7, c8⟩ := H1.out.1.cs)
      | (go_at_call 62; (with_reducible refine (HT.out _).mono ?_); rintro e w2 ⟨rfl, hm⟩; have H2 := Lib.hid (And.intro (H1.out.1.on hm.below) (slot_on H1.out.2 hm.below)); clear hm)
      | (obtain ⟨cs, hcs, hsz⟩ := H2.out.2; refine wpList_store_row rfl 49 _ _ rfl (w.heap.size + 2) 49 cs (X).arr rfl rfl hcs (sizeG _) hsz (oneG _) ?_))
    exact bodyPost_ret (res_sg_tmp rfl _ _ (w.heap.size + 2) (X) rfl (box_row hcs _)) rfl ⟨rfl, row_end H2.out.1.b (by omega) _⟩
  · have p0 : (s.ph == 2) = false := by simpa using hp
    have hX : abandonA nm dl ss s now = (s, 9) := by unfold abandonA; rw [if_neg (by simpa using h0), if_pos hp]
    rw [hX]
    clear hp hX hr hd h0 hN hL hsp htr
    go_enter Tryz.func28, Tryz.ntmps28
    go_wp2_with (first
      | (go_at_call 23; (with_reducible refine (HR.out _ (b3 w _ _ _)).mono ?_); rintro e w1 ⟨rfl, hm⟩; have H1 := Lib.hid (ed3 (s := s) hm); clear hm; obtain ⟨d0, d1, d2⟩ := H1.out.1.cd; obtain ⟨c0, c1, c2, c3, c4, c5, c6, c7, c8⟩ := H1.out.1.cs)
      | (obtain ⟨cs, hcs, hsz⟩ := H1.out.2; refine wpList_store_row rfl 49 _ _ rfl (w.heap.size + 2) 49 cs (s).arr rfl rfl hcs (sizeG _) hsz (oneG _) ?_))
    exact bodyPost_ret (res_sg_tmp rfl _ _ (w.heap.size + 2) (s) rfl (box_row hcs _)) rfl ⟨rfl, row_end H1.out.1.b (by omega) _⟩
set_option maxRecDepth 100000 in
set_option maxHeartbeats 8000000 in
theorem rskip_any (h0 : refE nm dl ss s now = 0) : Calls Tryz.prog 28 #[.agg #[.string nm, .int .i64 dl, .slice A n c], .agg #[.int .i64 s.id, .string s.dn, .int .i64 s.st, .int .i64 s.ph, .int .i64 s.sp, .int .i64 s.tr, .bool s.out, .int .i64 s.at_, .int .i64 s.sk], .int .i64 4, .int .i64 now] w fun e w' => e = .returned (.tuple #[.agg (skipA nm dl ss s now).1.arr, .int .i64 (skipA nm dl ss s now).2]) ∧ Below w.heap.size w w' := by
  have HR := Lib.hid (fun W (hW : Below w.heap.size w W) => rcheck14_any nm dl A n c ss s W (hd.on hW) now)
  have hr := refE_zero h0
  have hN := hd.en
  have hL := hd.len
  have hsp := hr.1.fld.sp
  have htr := good_tr hr.1 hr.2.2
  rw [h0] at HR
  by_cases hp : s.ph = 2
  · have p0 : (s.ph == 2) = true := by simpa using hp
    have hX : skipA nm dl ss s now = (doneS n (skipS s) now, 0) := by unfold skipA; rw [if_neg (by simpa using h0), if_neg (by simpa using hp), hN]
    have HT := Lib.hid (rdone_any nm dl A n c (skipS s) now ⟨hsp.1, by show s.sp < _; omega⟩ hL)
    have hsk := hr.1.fld.sk
    rw [hX]
    generalize doneS n (skipS s) now = X at *
    unfold skipS at HT
    by_cases h32 : s.sk < 32
    · have e : min (s.sk + 1) 32 = s.sk + 1 := by omega
      rw [e] at HT
      clear e hp hX hr hd h0 hN hL hsp htr
      go_enter Tryz.func28, Tryz.ntmps28
      go_wp2_with (first
        | (go_at_call 23; (with_reducible refine (HR.out _ (b3 w _ _ _)).mono ?_); rintro e w1 ⟨rfl, hm⟩; have H1 := Lib.hid (ed3 (s := s) hm); clear hm; obtain ⟨d0, d1, d2⟩ := H1.out.1.cd; obtain ⟨c0, c1, c2, c3, c4, c5, c6, c7, c8⟩ := H1.out.1.cs; have f8 := H1.out.1.s.frozen 8; have hls := H1.out.1.s.lt)
        | (go_at_call 58; (with_reducible refine (HT.out _).mono ?_); rintro e w2 ⟨rfl, hm⟩; have H2 := Lib.hid (And.intro ((H1.out.1.put8' _).on hm) (slot_on (slot_far H1.out.2 (p := ⟨w.heap.size + 1, 8, none⟩) (by show w.heap.size + 2 ≠ w.heap.size + 1; omega) _) hm)); clear hm)
        | (obtain ⟨cs, hcs, hsz⟩ := H2.out.2; refine wpList_store_row rfl 49 _ _ rfl (w.heap.size + 2) 49 cs (X).arr rfl rfl hcs (sizeG _) hsz (oneG _) ?_))
      exact bodyPost_ret (res_sg_tmp rfl _ _ (w.heap.size + 2) (X) rfl (box_row hcs _)) rfl ⟨rfl, row_end H2.out.1.b (by omega) _⟩
    · have e : min (s.sk + 1) 32 = s.sk := by omega
      rw [e] at HT
      clear e hp hX hr hd h0 hN hL hsp htr
      go_enter Tryz.func28, Tryz.ntmps28
      go_wp2_with (first
        | (go_at_call 23; (with_reducible refine (HR.out _ (b3 w _ _ _)).mono ?_); rintro e w1 ⟨rfl, hm⟩; have H1 := Lib.hid (ed3 (s := s) hm); clear hm; obtain ⟨d0, d1, d2⟩ := H1.out.1.cd; obtain ⟨c0, c1, c2, c3, c4, c5, c6, c7, c8⟩ := H1.out.1.cs)
        | (go_at_call 58; (with_reducible refine (HT.out _).mono ?_); rintro e w2 ⟨rfl, hm⟩; have H2 := Lib.hid (And.intro (H1.out.1.on hm) (slot_on H1.out.2 hm)); clear hm)
        | (obtain ⟨cs, hcs, hsz⟩ := H2.out.2; refine wpList_store_row rfl 49 _ _ rfl (w.heap.size + 2) 49 cs (X).arr rfl rfl hcs (sizeG _) hsz (oneG _) ?_))
      exact bodyPost_ret (res_sg_tmp rfl _ _ (w.heap.size + 2) (X) rfl (box_row hcs _)) rfl ⟨rfl, row_end H2.out.1.b (by omega) _⟩
  · have p0 : (s.ph == 2) = false := by simpa using hp
    have hX : skipA nm dl ss s now = (s, 9) := by unfold skipA; rw [if_neg (by simpa using h0), if_pos hp]
    rw [hX]
    clear hp hX hr hd h0 hN hL hsp htr
    go_enter Tryz.func28, Tryz.ntmps28
    go_wp2_with (first
      | (go_at_call 23; (with_reducible refine (HR.out _ (b3 w _ _ _)).mono ?_); rintro e w1 ⟨rfl, hm⟩; have H1 := Lib.hid (ed3 (s := s) hm); clear hm; obtain ⟨d0, d1, d2⟩ := H1.out.1.cd; obtain ⟨c0, c1, c2, c3, c4, c5, c6, c7, c8⟩ := H1.out.1.cs)
      | (obtain ⟨cs, hcs, hsz⟩ := H1.out.2; refine wpList_store_row rfl 49 _ _ rfl (w.heap.size + 2) 49 cs (s).arr rfl rfl hcs (sizeG _) hsz (oneG _) ?_))
    exact bodyPost_ret (res_sg_tmp rfl _ _ (w.heap.size + 2) (s) rfl (box_row hcs _)) rfl ⟨rfl, row_end H1.out.1.b (by omega) _⟩
set_option maxRecDepth 100000 in
set_option maxHeartbeats 8000000 in
theorem rdo_any (ht : s.tr ≤ 9223372036854775807) (hk : 0 ≤ k ∧ k ≤ 5) : Calls Tryz.prog 28 #[.agg #[.string nm, .int .i64 dl, .slice A n c], .agg #[.int .i64 s.id, .string s.dn, .int .i64 s.st, .int .i64 s.ph, .int .i64 s.sp, .int .i64 s.tr, .bool s.out, .int .i64 s.at_, .int .i64 s.sk], .int .i64 k, .int .i64 now] w fun e w' => e = .returned (.tuple #[.agg (numA nm dl ss s k now).1.arr, .int .i64 (numA nm dl ss s k now).2]) ∧ Below w.heap.size w w' := by
  by_cases h0 : refE nm dl ss s now = 0
  · have hks : k = 0 ∨ k = 1 ∨ k = 2 ∨ k = 3 ∨ k = 4 ∨ k = 5 := by omega
    rcases hks with rfl | rfl | rfl | rfl | rfl | rfl
    · exact rlate_any nm dl A n c ss s w hd now ht h0
    · exact rexpire_any nm dl A n c ss s w hd now h0
    · exact rcancel_any nm dl A n c ss s w hd now h0
    · exact rretry_any nm dl A n c ss s w hd now h0
    · exact rskip_any nm dl A n c ss s w hd now h0
    · exact rabandon_any nm dl A n c ss s w hd now h0
  · have HR := Lib.hid (fun W (hW : Below w.heap.size w W) => rcheck14_any nm dl A n c ss s W (hd.on hW) now)
    have g0 : (refE nm dl ss s now != 0) = true := by simpa using h0
    have hX : numA nm dl ss s k now = (s, refE nm dl ss s now) := by
      unfold numA lateA expireA cancelA retryA skipA abandonA
      simp only [ne_eq, h0, not_false_eq_true, if_true]
      repeat' split
      all_goals rfl
    rw [hX]
    generalize refE nm dl ss s now = r at *
    clear hX hd h0 hk
    go_enter Tryz.func28, Tryz.ntmps28
    go_wp2_with (first
      | (go_at_call 23; (with_reducible refine (HR.out _ (b3 w _ _ _)).mono ?_); rintro e w1 ⟨rfl, hm⟩; have H1 := Lib.hid (ed3 (s := s) hm); clear hm; obtain ⟨d0, d1, d2⟩ := H1.out.1.cd; obtain ⟨c0, c1, c2, c3, c4, c5, c6, c7, c8⟩ := H1.out.1.cs)
      | (obtain ⟨cs, hcs, hsz⟩ := H1.out.2; refine wpList_store_row rfl 49 _ _ rfl (w.heap.size + 2) 49 cs (s).arr rfl rfl hcs (sizeG _) hsz (oneG _) ?_))
    exact bodyPost_ret (res_sg_tmp rfl _ _ (w.heap.size + 2) (s) rfl (box_row hcs _)) rfl ⟨rfl, row_end H1.out.1.b (by omega) _⟩
end
end Go.Proofs.YteejocnogpaifaaGreatDoor.Sa
