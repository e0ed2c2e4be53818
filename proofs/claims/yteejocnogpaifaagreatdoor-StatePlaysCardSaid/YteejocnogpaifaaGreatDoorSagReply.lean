/-
  What Reply of package saga answers.
  Conditions: the definition's steps lie in memory, its names are of moderate length.
-/
import Derived.Test.YteejocnogpaifaaGreatDoorSagFail
import Derived.Test.YteejocnogpaifaaGreatDoorMrg2
namespace Go.Proofs.YteejocnogpaifaaGreatDoor.Sa
open Go.RowKit Go.Sort
open Go.Proofs.YteejocnogpaifaaGreatDoor.El
open Go.Proofs.YteejocnogpaifaaGreatDoor.Bo (P Made ret_int ret_bool left wait)
open Go.Proofs.YteejocnogpaifaaGreatDoor.Df

/-- blocks that a call has laid: a definition, a saga, a reply, a result's -/
structure Er (w w' : World) (nm : ByteArray) (dl : Int) (A : Option Addr) (n c : Nat) (s : Sg) (r : Rp) : Prop where
  e : Ed w w' nm dl A n c s
  r : Box w' (w.heap.size + 2) 30 r.arr
  q : Slot w' (w.heap.size + 3) 49 9
section
variable {w w' w2 : World} {nm : ByteArray} {dl : Int} {A : Option Addr} {n c : Nat} {s : Sg} {r : Rp}
theorem Er.on (h : Er w w' nm dl A n c s r) (hb : Below w'.heap.size w' w2) : Er w w2 nm dl A n c s r := ⟨h.e.on hb, h.r.below hb h.r.lt, slot_on h.q hb⟩
theorem er4 {cs : Array Value} {o u g : Bool} (hc : cs.size = 9) (ho : s.out = o) (hu : r.un = u) (hg : r.good = g) (h : Below ((((w.alloc (.cells #[.string nm, .int .i64 dl, .slice A n c] 33)).alloc (.cells #[.int .i64 s.id, .string s.dn, .int .i64 s.st, .int .i64 s.ph, .int .i64 s.sp, .int .i64 s.tr, .bool o, .int .i64 s.at_, .int .i64 s.sk] 49)).alloc (.cells #[.int .i64 r.sg, .int .i64 r.sp, .bool u, .int .i64 r.tr, .bool g] 30)).alloc (.cells cs 49)).heap.size ((((w.alloc (.cells #[.string nm, .int .i64 dl, .slice A n c] 33)).alloc (.cells #[.int .i64 s.id, .string s.dn, .int .i64 s.st, .int .i64 s.ph, .int .i64 s.sp, .int .i64 s.tr, .bool o, .int .i64 s.at_, .int .i64 s.sk] 49)).alloc (.cells #[.int .i64 r.sg, .int .i64 r.sp, .bool u, .int .i64 r.tr, .bool g] 30)).alloc (.cells cs 49)) w') : Er w w' nm dl A n c s r := by
  subst ho hu hg
  exact Er.on ⟨((ed2 (Below.refl _ _)).on ((Below.refl _ _).alloc (Nat.le_refl _) _)).on ((Below.refl _ _).alloc (Nat.le_refl _) _), (box_new3 w _ _ 30 r.arr).alloc _, Box.slot (box_new4 w _ _ _ _ cs) hc⟩ h
theorem Er.rc (h : Er w w' nm dl A n c s r) : w'.cell? ⟨w.heap.size + 2, 0, none⟩ = some (.int .i64 r.sg) ∧ w'.cell? ⟨w.heap.size + 2, 1, none⟩ = some (.int .i64 r.sp) ∧ w'.cell? ⟨w.heap.size + 2, 2, none⟩ = some (.bool r.un) ∧ w'.cell? ⟨w.heap.size + 2, 3, none⟩ = some (.int .i64 r.tr) ∧ w'.cell? ⟨w.heap.size + 2, 4, none⟩ = some (.bool r.good) :=
  ⟨h.r.cell 0, h.r.cell 1, h.r.cell 2, h.r.cell 3, h.r.cell 4⟩
end
theorem b4 (w : World) (o o' o2 o3 : Obj) : Below w.heap.size w ((((w.alloc o).alloc o').alloc o2).alloc o3) := ((made3 w o o' o2).trans (Made.alloc _ _)).below
theorem acc_iff {s : Sg} {r : Rp} : accB s r = true ↔ ((s.ph = 0 ∧ r.un = false) ∨ (s.ph = 1 ∧ r.un = true)) ∧ r.sp = s.sp ∧ 1 ≤ r.tr ∧ r.tr ≤ s.tr ∧ (r.good = true ∨ (r.tr = s.tr ∧ s.out = true)) := by
  unfold accB
  simp [and_assoc]
section
variable (nm : ByteArray) (dl : Int) (A : Option Addr) (n c : Nat) (ss : List Stp) (s : Sg) (r : Rp) (w : World) (hd : Dn w nm A n c ss) (now : Int) (ht : s.tr ≤ 9223372036854775807)
include hd ht
set_option maxRecDepth 100000 in
set_option maxHeartbeats 4000000 in
theorem reply_any : Calls Tryz.prog 79 #[.agg #[.string nm, .int .i64 dl, .slice A n c], .agg #[.int .i64 s.id, .string s.dn, .int .i64 s.st, .int .i64 s.ph, .int .i64 s.sp, .int .i64 s.tr, .bool s.out, .int .i64 s.at_, .int .i64 s.sk], .agg #[.int .i64 r.sg, .int .i64 r.sp, .bool r.un, .int .i64 r.tr, .bool r.good], .int .i64 now] w fun e w' => e = .returned (.tuple #[.agg (replyA nm dl ss s r now).1.arr, .int .i64 (replyA nm dl ss s r now).2]) ∧ Below w.heap.size w w' := by
  have HR := Lib.hid (fun W (hW : Below w.heap.size w W) => refusal_any nm dl A n c ss s W (hd.on hW) now)
  have HA := Lib.hid (accepted_any s r)
  by_cases h0 : refE nm dl ss s now = 0
  · have hr := refE_zero h0
    rw [h0] at HR
    by_cases h1 : r.sg = s.id
    · have g1 : (r.sg != s.id) = false := by simpa using h1
      by_cases h2 : accB s r = true
      · rw [h2] at HA
        have hac := acc_iff.1 h2
        have hN := hd.en
        have hL := hd.len
        have hsp := hr.1.fld.sp
        cases h3 : r.good with
        | true =>
          have hX : replyA nm dl ss s r now = (doneS n s now, 0) := by unfold replyA; rw [if_neg (by simpa using h0), if_neg (by simpa using h1), if_neg (by rw [h2]; simp), if_pos h3, hN]
          have HD := Lib.hid (done_any nm dl A n c s now ⟨hsp.1, by omega⟩ hL)
          rw [hX]
          generalize doneS n s now = X at *
          clear hX hr hd ht h0 h1 h2 hac hN hL hsp
          rw [h3] at HA
          go_enter Tryz.func79, Tryz.ntmps79
          go_wp2_with (first
            | (go_at_call 103; (with_reducible refine (HR.out _ (b4 w _ _ _ _)).mono ?_); rintro e w1 ⟨rfl, hm⟩; have H1 := Lib.hid (er4 (s := s) (r := r) rfl (by first | rfl | assumption) (by first | rfl | assumption) (by first | rfl | assumption) hm); clear hm; obtain ⟨d0, d1, d2⟩ := H1.out.e.cd; obtain ⟨c0, c1, c2, c3, c4, c5, c6, c7, c8⟩ := H1.out.e.cs; obtain ⟨r0, r1, r2, r3, r4⟩ := H1.out.rc; rw [h3] at r4)
            | (go_at_call 107; (with_reducible refine (HA.out _).mono ?_); rintro e w2 ⟨rfl, hm⟩; have H1' := Lib.hid (H1.out.on hm.below); clear hm; obtain ⟨d0, d1, d2⟩ := H1'.out.e.cd; obtain ⟨c0, c1, c2, c3, c4, c5, c6, c7, c8⟩ := H1'.out.e.cs; obtain ⟨r0, r1, r2, r3, r4⟩ := H1'.out.rc; rw [h3] at r4)
            | (go_at_call 108; (with_reducible refine (HD.out _).mono ?_); rintro e w3 ⟨rfl, hm⟩; have H2 := Lib.hid (H1'.out.on hm); clear hm)
            | (obtain ⟨cs, hcs, hsz⟩ := H2.out.q; refine wpList_store_row rfl 49 _ _ rfl (w.heap.size + 3) 49 cs (X).arr rfl rfl hcs (sizeG _) hsz (oneG _) ?_))
          exact bodyPost_ret (res_sg_tmp rfl _ _ (w.heap.size + 3) (X) rfl (box_row hcs _)) rfl ⟨rfl, row_end H2.out.e.b (by omega) _⟩
        | false =>
          have hX : replyA nm dl ss s r now = (failS ss s now, 0) := by unfold replyA; rw [if_neg (by simpa using h0), if_neg (by simpa using h1), if_neg (by rw [h2]; simp), if_neg (by rw [h3]; simp)]
          have htr1 : 1 ≤ s.tr := by omega
          have HD := Lib.hid (fun W (hW : Below w.heap.size w W) => failed_any nm dl A n c ss s now W (hd.on hW) hsp.1 (by omega) (good_plan hr.1) ⟨htr1, ht⟩)
          rw [hX]
          generalize failS ss s now = X at *
          clear hX hr hd ht h0 h1 h2 hac hN hL hsp htr1
          rw [h3] at HA
          go_enter Tryz.func79, Tryz.ntmps79
          go_wp2_with (first
            | (go_at_call 103; (with_reducible refine (HR.out _ (b4 w _ _ _ _)).mono ?_); rintro e w1 ⟨rfl, hm⟩; have H1 := Lib.hid (er4 (s := s) (r := r) rfl (by first | rfl | assumption) (by first | rfl | assumption) (by first | rfl | assumption) hm); clear hm; obtain ⟨d0, d1, d2⟩ := H1.out.e.cd; obtain ⟨c0, c1, c2, c3, c4, c5, c6, c7, c8⟩ := H1.out.e.cs; obtain ⟨r0, r1, r2, r3, r4⟩ := H1.out.rc; rw [h3] at r4)
            | (go_at_call 107; (with_reducible refine (HA.out _).mono ?_); rintro e w2 ⟨rfl, hm⟩; have H1' := Lib.hid (H1.out.on hm.below); clear hm; obtain ⟨d0, d1, d2⟩ := H1'.out.e.cd; obtain ⟨c0, c1, c2, c3, c4, c5, c6, c7, c8⟩ := H1'.out.e.cs; obtain ⟨r0, r1, r2, r3, r4⟩ := H1'.out.rc; rw [h3] at r4)
            | (go_at_call 109; (with_reducible refine (HD.out _ H1'.out.e.b).mono ?_); rintro e w3 ⟨rfl, hm⟩; have H2 := Lib.hid (H1'.out.on hm); clear hm)
            | (obtain ⟨cs, hcs, hsz⟩ := H2.out.q; refine wpList_store_row rfl 49 _ _ rfl (w.heap.size + 3) 49 cs (X).arr rfl rfl hcs (sizeG _) hsz (oneG _) ?_))
          exact bodyPost_ret (res_sg_tmp rfl _ _ (w.heap.size + 3) (X) rfl (box_row hcs _)) rfl ⟨rfl, row_end H2.out.e.b (by omega) _⟩
      · have h2' : accB s r = false := by simpa using h2
        have hX : replyA nm dl ss s r now = (s, 15) := by unfold replyA; rw [if_neg (by simpa using h0), if_neg (by simpa using h1), if_pos h2']
        rw [h2'] at HA
        rw [hX]
        clear hX hr hd ht h0 h1 h2 h2'
        go_enter Tryz.func79, Tryz.ntmps79
        go_wp2_with (first
          | (go_at_call 103; (with_reducible refine (HR.out _ (b4 w _ _ _ _)).mono ?_); rintro e w1 ⟨rfl, hm⟩; have H1 := Lib.hid (er4 (s := s) (r := r) rfl (by first | rfl | assumption) (by first | rfl | assumption) (by first | rfl | assumption) hm); clear hm; obtain ⟨d0, d1, d2⟩ := H1.out.e.cd; obtain ⟨c0, c1, c2, c3, c4, c5, c6, c7, c8⟩ := H1.out.e.cs; obtain ⟨r0, r1, r2, r3, r4⟩ := H1.out.rc)
          | (go_at_call 107; (with_reducible refine (HA.out _).mono ?_); rintro e w2 ⟨rfl, hm⟩; have H1' := Lib.hid (H1.out.on hm.below); clear hm; obtain ⟨d0, d1, d2⟩ := H1'.out.e.cd; obtain ⟨c0, c1, c2, c3, c4, c5, c6, c7, c8⟩ := H1'.out.e.cs; obtain ⟨r0, r1, r2, r3, r4⟩ := H1'.out.rc)
          | (obtain ⟨cs, hcs, hsz⟩ := H1'.out.q; refine wpList_store_row rfl 49 _ _ rfl (w.heap.size + 3) 49 cs (s).arr rfl rfl hcs (sizeG _) hsz (oneG _) ?_))
        exact bodyPost_ret (res_sg_tmp rfl _ _ (w.heap.size + 3) (s) rfl (box_row hcs _)) rfl ⟨rfl, row_end H1'.out.e.b (by omega) _⟩
    · have g1 : (r.sg != s.id) = true := by simpa using h1
      have hX : replyA nm dl ss s r now = (s, 7) := by unfold replyA; rw [if_neg (by simpa using h0), if_pos h1]
      rw [hX]
      clear hX hr hd ht h0 h1
      go_enter Tryz.func79, Tryz.ntmps79
      go_wp2_with (first
        | (go_at_call 103; (with_reducible refine (HR.out _ (b4 w _ _ _ _)).mono ?_); rintro e w1 ⟨rfl, hm⟩; have H1 := Lib.hid (er4 (s := s) (r := r) rfl (by first | rfl | assumption) (by first | rfl | assumption) (by first | rfl | assumption) hm); clear hm; obtain ⟨d0, d1, d2⟩ := H1.out.e.cd; obtain ⟨c0, c1, c2, c3, c4, c5, c6, c7, c8⟩ := H1.out.e.cs; obtain ⟨r0, r1, r2, r3, r4⟩ := H1.out.rc)
        | (obtain ⟨cs, hcs, hsz⟩ := H1.out.q; refine wpList_store_row rfl 49 _ _ rfl (w.heap.size + 3) 49 cs (s).arr rfl rfl hcs (sizeG _) hsz (oneG _) ?_))
      exact bodyPost_ret (res_sg_tmp rfl _ _ (w.heap.size + 3) (s) rfl (box_row hcs _)) rfl ⟨rfl, row_end H1.out.e.b (by omega) _⟩
  · have g0 : (refE nm dl ss s now != 0) = true := by simpa using h0
    have hX : replyA nm dl ss s r now = (s, refE nm dl ss s now) := by unfold replyA; rw [if_pos h0]
    rw [hX]
    generalize refE nm dl ss s now = q at *
    clear hX hd ht h0
    go_enter Tryz.func79, Tryz.ntmps79
    go_wp2_with (first
      | (go_at_call 103; (with_reducible refine (HR.out _ (b4 w _ _ _ _)).mono ?_); rintro e w1 ⟨rfl, hm⟩; have H1 := Lib.hid (er4 (s := s) (r := r) rfl (by first | rfl | assumption) (by first | rfl | assumption) (by first | rfl | assumption) hm); clear hm; obtain ⟨d0, d1, d2⟩ := H1.out.e.cd; obtain ⟨c0, c1, c2, c3, c4, c5, c6, c7, c8⟩ := H1.out.e.cs; obtain ⟨r0, r1, r2, r3, r4⟩ := H1.out.rc)
      | (obtain ⟨cs, hcs, hsz⟩ := H1.out.q; refine wpList_store_row rfl 49 _ _ rfl (w.heap.size + 3) 49 cs (s).arr rfl rfl hcs (sizeG _) hsz (oneG _) ?_))
    exact bodyPost_ret (res_sg_tmp rfl _ _ (w.heap.size + 3) (s) rfl (box_row hcs _)) rfl ⟨rfl, row_end H1.out.e.b (by omega) _⟩
end
end Go.Proofs.YteejocnogpaifaaGreatDoor.Sa
