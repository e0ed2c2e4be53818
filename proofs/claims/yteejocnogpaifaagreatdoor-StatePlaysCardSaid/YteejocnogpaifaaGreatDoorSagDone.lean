/-
  What turned and done of package saga answer, and the document's own put, end, Back, Done, Over, tick.
  Conditions: the step is one of a definition's.
-/
import Derived.Test.YteejocnogpaifaaGreatDoorMrg2
namespace Go.Proofs.YteejocnogpaifaaGreatDoor.Sa
open Go.RowKit Go.Sort
open Go.Proofs.YteejocnogpaifaaGreatDoor.Bo (P Made ret_int ret_bool)
open Go.Proofs.YteejocnogpaifaaGreatDoor.Df

theorem two_below' {w w' : World} {o : Obj} {t : TypeId} {cs : Array Value} (h : Below ((w.alloc o).alloc (.cells cs t)).heap.size ((w.alloc o).alloc (.cells cs t)) w') : Slot w' (w.heap.size + 1) t cs.size ∧ Below w.heap.size w w' :=
  ⟨(Box.slot (box_new2 w o t cs) rfl).below h (box_new2 w o t cs).lt, (ds_below w _ _).1.trans (h.mono (ds_below w _ _).1.size)⟩
theorem row_end {w w' : World} (h : Below w.heap.size w w') {g : Nat} (hg : w.heap.size ≤ g) (cs : Array Value) : Below w.heap.size w (w'.setRow g cs) := below_row h hg cs
set_option maxHeartbeats 1000000 in
theorem turned_any (s : Sg) (now : Int) (hs : 0 ≤ s.sp ∧ s.sp ≤ 9223372036854775807) (w : World) : Calls Tryz.prog 112 #[.agg #[.int .i64 s.id, .string s.dn, .int .i64 s.st, .int .i64 s.ph, .int .i64 s.sp, .int .i64 s.tr, .bool s.out, .int .i64 s.at_, .int .i64 s.sk], .int .i64 now] w fun e w' => e = .returned (.agg (aheadS s 4 now).arr) ∧ Below w.heap.size w w' := by
  have HE := Lib.hid (ahead_any s 4 now hs)
  clear hs
  generalize aheadS s 4 now = X at HE ⊢
  go_enter Tryz.func112, Tryz.ntmps112
  go_wp2_with (first
    | (go_at_call 125; (with_reducible refine (HE.out _).mono ?_); rintro e w1 ⟨rfl, hm⟩; have HM := Lib.hid (two_below' hm); clear hm)
    | (obtain ⟨cs, hcs, hsz⟩ := HM.out.1; refine wpList_store_row rfl 49 _ _ rfl (w.heap.size + 1) 49 cs (X).arr rfl rfl hcs (sizeG _) hsz (oneG _) ?_))
  exact bodyPost_ret (res_sg rfl _ _ (w.heap.size + 1) X rfl (box_row hcs _)) rfl ⟨rfl, row_end HM.out.2 (by omega) _⟩
set_option maxHeartbeats 4000000 in
theorem done_any (nm : ByteArray) (dl : Int) (A : Option Addr) (n c : Nat) (s : Sg) (now : Int) (hs : 0 ≤ s.sp ∧ s.sp < n) (hn : n ≤ 4611686018427387904) (w : World) : Calls Tryz.prog 108 #[.agg #[.string nm, .int .i64 dl, .slice A n c], .agg #[.int .i64 s.id, .string s.dn, .int .i64 s.st, .int .i64 s.ph, .int .i64 s.sp, .int .i64 s.tr, .bool s.out, .int .i64 s.at_, .int .i64 s.sk], .int .i64 now] w fun e w' => e = .returned (.agg (doneS n s now).arr) ∧ Below w.heap.size w w' := by
  by_cases h0 : s.ph = 0
  · have g0 : (s.ph == 0) = true := by simpa using h0
    by_cases h1 : s.sp = (n : Int) - 1
    · have g1 : (s.sp == (n : Int) - 1) = true := by simpa using h1
      have HX : Hid (doneS n s now = endS s 3) := Lib.hid (by unfold doneS; rw [if_pos h0, if_pos h1])
      have HE := Lib.hid (ended_any s 3)
      rw [HX.out]
      generalize endS s 3 = X at HE ⊢
      clear h0 h1 HX
      go_enter Tryz.func108, Tryz.ntmps108
      go_wp2_with (first
        | (go_at_call 114; (with_reducible refine (HE.out _).mono ?_); rintro e w1 ⟨rfl, hm⟩; have HM := Lib.hid (ed3 (s := s) hm.below); clear hm)
        | (obtain ⟨cs, hcs, hsz⟩ := HM.out.2; refine wpList_store_row rfl 49 _ _ rfl (w.heap.size + 2) 49 cs (X).arr rfl rfl hcs (sizeG _) hsz (oneG _) ?_))
      exact bodyPost_ret (res_sg rfl _ _ (w.heap.size + 2) X rfl (box_row hcs _)) rfl ⟨rfl, row_end HM.out.1.b (by omega) _⟩
    · have g1 : (s.sp == (n : Int) - 1) = false := by simpa using h1
      have HX : Hid (doneS n s now = putS s 0 (s.sp + 1) now) := Lib.hid (by unfold doneS; rw [if_pos h0, if_neg h1])
      have HE := Lib.hid (atWork_any s 0 (s.sp + 1) now)
      rw [HX.out]
      generalize putS s 0 (s.sp + 1) now = X at HE ⊢
      clear h0 h1 HX
      go_enter Tryz.func108, Tryz.ntmps108
      go_wp2_with (first
        | (go_at_call 113; (with_reducible refine (HE.out _).mono ?_); rintro e w1 ⟨rfl, hm⟩; have HM := Lib.hid (ed3 (s := s) hm.below); clear hm)
        | (obtain ⟨cs, hcs, hsz⟩ := HM.out.2; refine wpList_store_row rfl 49 _ _ rfl (w.heap.size + 2) 49 cs (X).arr rfl rfl hcs (sizeG _) hsz (oneG _) ?_))
      exact bodyPost_ret (res_sg rfl _ _ (w.heap.size + 2) X rfl (box_row hcs _)) rfl ⟨rfl, row_end HM.out.1.b (by omega) _⟩
  · have g0 : (s.ph == 0) = false := by simpa using h0
    by_cases h1 : 0 < s.sk
    · have HX : Hid (doneS n s now = aheadS s 5 now) := Lib.hid (by unfold doneS; rw [if_neg h0, if_pos h1])
      have HE := Lib.hid (ahead_any s 5 now (by omega))
      rw [HX.out]
      generalize aheadS s 5 now = X at HE ⊢
      clear h0 HX
      go_enter Tryz.func108, Tryz.ntmps108
      go_wp2_with (first
        | (go_at_call 125; (with_reducible refine (HE.out _).mono ?_); rintro e w1 ⟨rfl, hm⟩; have HM := Lib.hid (ed3 (s := s) hm); clear hm)
        | (obtain ⟨cs, hcs, hsz⟩ := HM.out.2; refine wpList_store_row rfl 49 _ _ rfl (w.heap.size + 2) 49 cs (X).arr rfl rfl hcs (sizeG _) hsz (oneG _) ?_))
      exact bodyPost_ret (res_sg rfl _ _ (w.heap.size + 2) X rfl (box_row hcs _)) rfl ⟨rfl, row_end HM.out.1.b (by omega) _⟩
    · have HX : Hid (doneS n s now = aheadS s 4 now) := Lib.hid (by unfold doneS; rw [if_neg h0, if_neg h1])
      have HE := Lib.hid (ahead_any s 4 now (by omega))
      rw [HX.out]
      generalize aheadS s 4 now = X at HE ⊢
      clear h0 HX
      go_enter Tryz.func108, Tryz.ntmps108
      go_wp2_with (first
        | (go_at_call 125; (with_reducible refine (HE.out _).mono ?_); rintro e w1 ⟨rfl, hm⟩; have HM := Lib.hid (ed3 (s := s) hm); clear hm)
        | (obtain ⟨cs, hcs, hsz⟩ := HM.out.2; refine wpList_store_row rfl 49 _ _ rfl (w.heap.size + 2) 49 cs (X).arr rfl rfl hcs (sizeG _) hsz (oneG _) ?_))
      exact bodyPost_ret (res_sg rfl _ _ (w.heap.size + 2) X rfl (box_row hcs _)) rfl ⟨rfl, row_end HM.out.1.b (by omega) _⟩

/-! ### The document's own -/
set_option maxHeartbeats 400000 in
theorem rover_any (s : Sg) (w : World) : Calls Tryz.prog 27 #[.agg #[.int .i64 s.id, .string s.dn, .int .i64 s.st, .int .i64 s.ph, .int .i64 s.sp, .int .i64 s.tr, .bool s.out, .int .i64 s.at_, .int .i64 s.sk]] w fun e w' => e = .returned (.bool (overB s)) ∧ Made w w' := by
  go_enter Tryz.func27, Tryz.ntmps27
  go_wp2
  all_goals
    go_ret
    refine ⟨ret_bool ?_, Made.alloc _ _⟩
    unfold overB
    rw [Bool.eq_iff_iff]
    simp_all
    try omega
set_option maxHeartbeats 400000 in
theorem rtick_any (n : Int) (w : World) : Calls Tryz.prog 53 #[.int .i64 n] w fun e w' => e = .returned (.bool (Bo.goodN n)) ∧ w = w' := by
  by_cases h : 0 ≤ n
  all_goals
    go_enter Tryz.func53, Tryz.ntmps53
    go_wp2
    go_ret
    refine ⟨ret_bool ?_, rfl⟩
    simp only [Bo.goodN, Bool.decide_and, h]
    simp <;> omega
set_option maxHeartbeats 400000 in
theorem rend14_any (s : Sg) (ph : Int) (w : World) : Calls Tryz.prog 62 #[.agg #[.int .i64 s.id, .string s.dn, .int .i64 s.st, .int .i64 s.ph, .int .i64 s.sp, .int .i64 s.tr, .bool s.out, .int .i64 s.at_, .int .i64 s.sk], .int .i64 ph] w fun e w' => e = .returned (.agg (endS s ph).arr) ∧ Made w w' := by
  go_enter Tryz.func62, Tryz.ntmps62
  go_wp2
  refine bodyPost_ret (res_sg rfl _ _ (w.heap.size + 1) (endS s ph) rfl ?_) rfl ⟨rfl, ?_⟩
  · exact box_new2 w _ _ _
  · exact (Made.alloc _ _).trans (Made.alloc _ _)
set_option maxHeartbeats 400000 in
theorem rput_any (s : Sg) (ph sp now : Int) (w : World) : Calls Tryz.prog 61 #[.agg #[.int .i64 s.id, .string s.dn, .int .i64 s.st, .int .i64 s.ph, .int .i64 s.sp, .int .i64 s.tr, .bool s.out, .int .i64 s.at_, .int .i64 s.sk], .int .i64 ph, .int .i64 sp, .int .i64 now] w fun e w' => e = .returned (.agg (putS s ph sp now).arr) ∧ Made w w' := by
  go_enter Tryz.func61, Tryz.ntmps61
  go_wp2
  refine bodyPost_ret (res_sg rfl _ _ (w.heap.size + 1) (putS s ph sp now) rfl ?_) rfl ⟨rfl, ?_⟩
  · exact box_new2 w _ _ _
  · exact (Made.alloc _ _).trans (Made.alloc _ _)
set_option maxHeartbeats 1000000 in
theorem rback_any (s : Sg) (now : Int) (hs : 0 ≤ s.sp ∧ s.sp ≤ 9223372036854775807) (w : World) : Calls Tryz.prog 60 #[.agg #[.int .i64 s.id, .string s.dn, .int .i64 s.st, .int .i64 s.ph, .int .i64 s.sp, .int .i64 s.tr, .bool s.out, .int .i64 s.at_, .int .i64 s.sk], .int .i64 now] w fun e w' => e = .returned (.agg (aheadS s 4 now).arr) ∧ Below w.heap.size w w' := by
  by_cases h : 0 < s.sp
  · have ha : aheadS s 4 now = putS s 1 (s.sp - 1) now := by unfold aheadS; rw [if_neg (by omega)]
    have HP := Lib.hid (rput_any s 1 (s.sp - 1) now)
    rw [ha]
    generalize putS s 1 (s.sp - 1) now = X at HP ⊢
    clear ha
    go_enter Tryz.func60, Tryz.ntmps60
    go_wp2_with (first
      | (go_at_call 61; (with_reducible refine (HP.out _).mono ?_); rintro e w1 ⟨rfl, hm⟩; have HM := Lib.hid (two_made hm); clear hm)
      | (obtain ⟨cs, hcs, hsz⟩ := HM.out.1; refine wpList_store_row rfl 49 _ _ rfl (w.heap.size + 1) 49 cs (X).arr rfl rfl hcs (sizeG _) hsz (oneG _) ?_))
    exact bodyPost_ret (res_sg rfl _ _ (w.heap.size + 1) X rfl (box_row hcs _)) rfl ⟨rfl, made_row HM.out.2 (by omega) _⟩
  · have ha : aheadS s 4 now = endS s 4 := by unfold aheadS; rw [if_pos (by omega)]
    have HP := Lib.hid (rend14_any s 4)
    rw [ha]
    generalize endS s 4 = X at HP ⊢
    clear ha
    go_enter Tryz.func60, Tryz.ntmps60
    go_wp2_with (first
      | (go_at_call 62; (with_reducible refine (HP.out _).mono ?_); rintro e w1 ⟨rfl, hm⟩; have HM := Lib.hid (two_made hm); clear hm)
      | (obtain ⟨cs, hcs, hsz⟩ := HM.out.1; refine wpList_store_row rfl 49 _ _ rfl (w.heap.size + 1) 49 cs (X).arr rfl rfl hcs (sizeG _) hsz (oneG _) ?_))
    exact bodyPost_ret (res_sg rfl _ _ (w.heap.size + 1) X rfl (box_row hcs _)) rfl ⟨rfl, made_row HM.out.2 (by omega) _⟩
set_option maxHeartbeats 4000000 in
theorem rdone_any (nm : ByteArray) (dl : Int) (A : Option Addr) (n c : Nat) (s : Sg) (now : Int) (hs : 0 ≤ s.sp ∧ s.sp < n) (hn : n ≤ 4611686018427387904) (w : World) : Calls Tryz.prog 58 #[.agg #[.string nm, .int .i64 dl, .slice A n c], .agg #[.int .i64 s.id, .string s.dn, .int .i64 s.st, .int .i64 s.ph, .int .i64 s.sp, .int .i64 s.tr, .bool s.out, .int .i64 s.at_, .int .i64 s.sk], .int .i64 now] w fun e w' => e = .returned (.agg (doneS n s now).arr) ∧ Below w.heap.size w w' := by
  have HP := Lib.hid (fun ph sp => rput_any s ph sp now)
  have HE := Lib.hid (fun ph => rend14_any s ph)
  have HX : Hid (∀ X, X = doneS n s now → Sg.arr X = Sg.arr (doneS n s now)) := Lib.hid fun X h => by rw [h]
  have HD : Hid (doneS n s now = doneS n s now) := Lib.hid rfl
  by_cases h0 : s.ph = 0
  · have g0 : (s.ph == 0) = true := by simpa using h0
    by_cases h1 : s.sp + 1 < (n : Int)
    · have hx : doneS n s now = putS s 0 (s.sp + 1) now := by unfold doneS; rw [if_pos h0, if_neg (by omega)]
      rw [hx]
      clear HX HD hx h0
      go_enter Tryz.func58, Tryz.ntmps58
      go_wp2_with (first
        | (go_at_call 61; (with_reducible refine (HP.out _ _ _).mono ?_); rintro e w1 ⟨rfl, hm⟩; have HM := Lib.hid (ed3 (s := s) hm.below); clear hm)
        | (obtain ⟨cs, hcs, hsz⟩ := HM.out.2; refine wpList_store_row rfl 49 _ _ rfl (w.heap.size + 2) 49 cs (putS s 0 (s.sp + 1) now).arr rfl rfl hcs (sizeG _) hsz (oneG _) ?_))
      exact bodyPost_ret (res_sg rfl _ _ (w.heap.size + 2) (putS s 0 (s.sp + 1) now) rfl (box_row hcs _)) rfl ⟨rfl, row_end HM.out.1.b (by omega) _⟩
    · have hx : doneS n s now = endS s 3 := by unfold doneS; rw [if_pos h0, if_pos (by omega)]
      rw [hx]
      clear HX HD hx h0
      go_enter Tryz.func58, Tryz.ntmps58
      go_wp2_with (first
        | (go_at_call 62; (with_reducible refine (HE.out _ _).mono ?_); rintro e w1 ⟨rfl, hm⟩; have HM := Lib.hid (ed3 (s := s) hm.below); clear hm)
        | (obtain ⟨cs, hcs, hsz⟩ := HM.out.2; refine wpList_store_row rfl 49 _ _ rfl (w.heap.size + 2) 49 cs (endS s 3).arr rfl rfl hcs (sizeG _) hsz (oneG _) ?_))
      exact bodyPost_ret (res_sg rfl _ _ (w.heap.size + 2) (endS s 3) rfl (box_row hcs _)) rfl ⟨rfl, row_end HM.out.1.b (by omega) _⟩
  · have g0 : (s.ph == 0) = false := by simpa using h0
    by_cases h1 : 0 < s.sp
    · have hx : doneS n s now = putS s 1 (s.sp - 1) now := by
        unfold doneS aheadS
        rw [if_neg h0]
        split <;> rw [if_neg (by omega)]
      rw [hx]
      clear HX HD hx h0
      go_enter Tryz.func58, Tryz.ntmps58
      go_wp2_with (first
        | (go_at_call 61; (with_reducible refine (HP.out _ _ _).mono ?_); rintro e w1 ⟨rfl, hm⟩; have HM := Lib.hid (ed3 (s := s) hm.below); clear hm)
        | (obtain ⟨cs, hcs, hsz⟩ := HM.out.2; refine wpList_store_row rfl 49 _ _ rfl (w.heap.size + 2) 49 cs (putS s 1 (s.sp - 1) now).arr rfl rfl hcs (sizeG _) hsz (oneG _) ?_))
      exact bodyPost_ret (res_sg rfl _ _ (w.heap.size + 2) (putS s 1 (s.sp - 1) now) rfl (box_row hcs _)) rfl ⟨rfl, row_end HM.out.1.b (by omega) _⟩
    · by_cases h2 : 0 < s.sk
      · have hx : doneS n s now = endS s 5 := by
          unfold doneS aheadS
          rw [if_neg h0, if_pos h2, if_pos (by omega)]
        rw [hx]
        clear HX HD hx h0
        go_enter Tryz.func58, Tryz.ntmps58
        go_wp2_with (first
          | (go_at_call 62; (with_reducible refine (HE.out _ _).mono ?_); rintro e w1 ⟨rfl, hm⟩; have HM := Lib.hid (ed3 (s := s) hm.below); clear hm)
          | (obtain ⟨cs, hcs, hsz⟩ := HM.out.2; refine wpList_store_row rfl 49 _ _ rfl (w.heap.size + 2) 49 cs (endS s 5).arr rfl rfl hcs (sizeG _) hsz (oneG _) ?_))
        exact bodyPost_ret (res_sg rfl _ _ (w.heap.size + 2) (endS s 5) rfl (box_row hcs _)) rfl ⟨rfl, row_end HM.out.1.b (by omega) _⟩
      · have hx : doneS n s now = endS s 4 := by
          unfold doneS aheadS
          rw [if_neg h0, if_neg h2, if_pos (by omega)]
        rw [hx]
        clear HX HD hx h0
        go_enter Tryz.func58, Tryz.ntmps58
        go_wp2_with (first
          | (go_at_call 62; (with_reducible refine (HE.out _ _).mono ?_); rintro e w1 ⟨rfl, hm⟩; have HM := Lib.hid (ed3 (s := s) hm.below); clear hm)
          | (obtain ⟨cs, hcs, hsz⟩ := HM.out.2; refine wpList_store_row rfl 49 _ _ rfl (w.heap.size + 2) 49 cs (endS s 4).arr rfl rfl hcs (sizeG _) hsz (oneG _) ?_))
        exact bodyPost_ret (res_sg rfl _ _ (w.heap.size + 2) (endS s 4) rfl (box_row hcs _)) rfl ⟨rfl, row_end HM.out.1.b (by omega) _⟩
end Go.Proofs.YteejocnogpaifaaGreatDoor.Sa
