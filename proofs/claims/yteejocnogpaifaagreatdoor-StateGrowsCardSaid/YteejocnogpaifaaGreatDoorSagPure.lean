/-
  What the functions of package saga answer that only turn a saga's fields: Over, accepted, ended, atWork, ahead, turned, done; and the document's own ones.
  Conditions: none.
-/
import Derived.Test.YteejocnogpaifaaGreatDoorSagMem
namespace Go.Proofs.YteejocnogpaifaaGreatDoor.Sa
open Go.RowKit Go.Sort
open Go.Proofs.YteejocnogpaifaaGreatDoor.Bo (P Made ret_int ret_bool)
open Go.Proofs.YteejocnogpaifaaGreatDoor.Df

theorem two_made {w w' : World} {o : Obj} {t : TypeId} {cs : Array Value} (h : Made ((w.alloc o).alloc (.cells cs t)) w') : Slot w' (w.heap.size + 1) t cs.size ∧ Made w w' :=
  ⟨(Box.slot (box_new2 w o t cs) rfl).below h.below (box_new2 w o t cs).lt, ((Made.alloc _ _).trans (Made.alloc _ _)).trans h⟩
theorem three_made {w w' : World} {o o' : Obj} {t : TypeId} {cs : Array Value} (h : Made (((w.alloc o).alloc o').alloc (.cells cs t)) w') : Slot w' (w.heap.size + 2) t cs.size ∧ Made w w' :=
  ⟨(Box.slot (box_new3 w o o' t cs) rfl).below h.below (box_new3 w o o' t cs).lt, (((Made.alloc _ _).trans (Made.alloc _ _)).trans (Made.alloc _ _)).trans h⟩
/-- a call has made blocks, and written into those alone -/
theorem made_row {w w' : World} (h : Made w w') {g : Nat} (hg : w.heap.size ≤ g) (cs : Array Value) : Below w.heap.size w (w'.setRow g cs) := below_row h.below hg cs
set_option maxHeartbeats 400000 in
theorem over_any (s : Sg) (w : World) : Calls Tryz.prog 47 #[.agg #[.int .i64 s.id, .string s.dn, .int .i64 s.st, .int .i64 s.ph, .int .i64 s.sp, .int .i64 s.tr, .bool s.out, .int .i64 s.at_, .int .i64 s.sk]] w fun e w' => e = .returned (.bool (overB s)) ∧ Made w w' := by
  go_enter Tryz.func47, Tryz.ntmps47
  go_wp2
  all_goals
    go_ret
    refine ⟨ret_bool ?_, Made.alloc _ _⟩
    unfold overB
    rw [Bool.eq_iff_iff]
    simp_all
    try omega
set_option maxHeartbeats 400000 in
theorem ended_any (s : Sg) (ph : Int) (w : World) : Calls Tryz.prog 114 #[.agg #[.int .i64 s.id, .string s.dn, .int .i64 s.st, .int .i64 s.ph, .int .i64 s.sp, .int .i64 s.tr, .bool s.out, .int .i64 s.at_, .int .i64 s.sk], .int .i64 ph] w fun e w' => e = .returned (.agg (endS s ph).arr) ∧ Made w w' := by
  go_enter Tryz.func114, Tryz.ntmps114
  go_wp2
  refine bodyPost_ret (res_sg rfl _ _ (w.heap.size + 1) (endS s ph) rfl ?_) rfl ⟨rfl, ?_⟩
  · exact box_new2 w _ _ _
  · exact (Made.alloc _ _).trans (Made.alloc _ _)
set_option maxHeartbeats 400000 in
theorem atWork_any (s : Sg) (ph sp now : Int) (w : World) : Calls Tryz.prog 113 #[.agg #[.int .i64 s.id, .string s.dn, .int .i64 s.st, .int .i64 s.ph, .int .i64 s.sp, .int .i64 s.tr, .bool s.out, .int .i64 s.at_, .int .i64 s.sk], .int .i64 ph, .int .i64 sp, .int .i64 now] w fun e w' => e = .returned (.agg (putS s ph sp now).arr) ∧ Made w w' := by
  go_enter Tryz.func113, Tryz.ntmps113
  go_wp2
  refine bodyPost_ret (res_sg rfl _ _ (w.heap.size + 1) (putS s ph sp now) rfl ?_) rfl ⟨rfl, ?_⟩
  · exact box_new2 w _ _ _
  · exact (Made.alloc _ _).trans (Made.alloc _ _)
/-- blocks that a call has laid: a definition, a saga -/
structure Ed (w w' : World) (nm : ByteArray) (dl : Int) (A : Option Addr) (n c : Nat) (s : Sg) : Prop where
  d : Box w' w.heap.size 33 #[.string nm, .int .i64 dl, .slice A n c]
  s : Box w' (w.heap.size + 1) 49 s.arr
  b : Below w.heap.size w w'
section
variable {w w' w2 : World} {nm : ByteArray} {dl : Int} {A : Option Addr} {n c : Nat} {s : Sg}
theorem Ed.on (h : Ed w w' nm dl A n c s) (hb : Below w'.heap.size w' w2) : Ed w w2 nm dl A n c s := ⟨h.d.below hb h.d.lt, h.s.below hb h.s.lt, h.b.trans (hb.mono h.b.size)⟩
theorem ed2 (h : Below ((w.alloc (.cells #[.string nm, .int .i64 dl, .slice A n c] 33)).alloc (.cells #[.int .i64 s.id, .string s.dn, .int .i64 s.st, .int .i64 s.ph, .int .i64 s.sp, .int .i64 s.tr, .bool s.out, .int .i64 s.at_, .int .i64 s.sk] 49)).heap.size ((w.alloc (.cells #[.string nm, .int .i64 dl, .slice A n c] 33)).alloc (.cells #[.int .i64 s.id, .string s.dn, .int .i64 s.st, .int .i64 s.ph, .int .i64 s.sp, .int .i64 s.tr, .bool s.out, .int .i64 s.at_, .int .i64 s.sk] 49)) w') : Ed w w' nm dl A n c s :=
  Ed.on ⟨(Box.new w 33 #[.string nm, .int .i64 dl, .slice A n c]).alloc _, box_new2 w _ 49 s.arr, (ds_below w _ _).1⟩ h
theorem ed3 {t : TypeId} {cs : Array Value} (h : Below (((w.alloc (.cells #[.string nm, .int .i64 dl, .slice A n c] 33)).alloc (.cells #[.int .i64 s.id, .string s.dn, .int .i64 s.st, .int .i64 s.ph, .int .i64 s.sp, .int .i64 s.tr, .bool s.out, .int .i64 s.at_, .int .i64 s.sk] 49)).alloc (.cells cs t)).heap.size (((w.alloc (.cells #[.string nm, .int .i64 dl, .slice A n c] 33)).alloc (.cells #[.int .i64 s.id, .string s.dn, .int .i64 s.st, .int .i64 s.ph, .int .i64 s.sp, .int .i64 s.tr, .bool s.out, .int .i64 s.at_, .int .i64 s.sk] 49)).alloc (.cells cs t)) w') : Ed w w' nm dl A n c s ∧ Slot w' (w.heap.size + 2) t cs.size :=
  ⟨Ed.on (Ed.on (ed2 (Below.refl _ _)) ((Below.refl _ _).alloc (Nat.le_refl _) _)) h, (Box.slot (box_new3 w _ _ t cs) rfl).below h (box_new3 w _ _ t cs).lt⟩
theorem Ed.cd (h : Ed w w' nm dl A n c s) : w'.cell? ⟨w.heap.size, 0, none⟩ = some (.string nm) ∧ w'.cell? ⟨w.heap.size, 1, none⟩ = some (.int .i64 dl) ∧ w'.cell? ⟨w.heap.size, 2, none⟩ = some (.slice A n c) := dfcells h.d
theorem Ed.cs (h : Ed w w' nm dl A n c s) : w'.cell? ⟨w.heap.size + 1, 0, none⟩ = some (.int .i64 s.id) ∧ w'.cell? ⟨w.heap.size + 1, 1, none⟩ = some (.string s.dn) ∧ w'.cell? ⟨w.heap.size + 1, 2, none⟩ = some (.int .i64 s.st) ∧ w'.cell? ⟨w.heap.size + 1, 3, none⟩ = some (.int .i64 s.ph) ∧ w'.cell? ⟨w.heap.size + 1, 4, none⟩ = some (.int .i64 s.sp) ∧
    w'.cell? ⟨w.heap.size + 1, 5, none⟩ = some (.int .i64 s.tr) ∧ w'.cell? ⟨w.heap.size + 1, 6, none⟩ = some (.bool s.out) ∧ w'.cell? ⟨w.heap.size + 1, 7, none⟩ = some (.int .i64 s.at_) ∧ w'.cell? ⟨w.heap.size + 1, 8, none⟩ = some (.int .i64 s.sk) := sgcells h.s
end
theorem slot_on {w w' : World} {g : Nat} {t : TypeId} {k : Nat} (h : Slot w g t k) (hb : Below w.heap.size w w') : Slot w' g t k := h.below hb h.lt
set_option maxHeartbeats 1000000 in
theorem ahead_any (s : Sg) (last now : Int) (hs : 0 ≤ s.sp ∧ s.sp ≤ 9223372036854775807) (w : World) : Calls Tryz.prog 125 #[.agg #[.int .i64 s.id, .string s.dn, .int .i64 s.st, .int .i64 s.ph, .int .i64 s.sp, .int .i64 s.tr, .bool s.out, .int .i64 s.at_, .int .i64 s.sk], .int .i64 last, .int .i64 now] w fun e w' => e = .returned (.agg (aheadS s last now).arr) ∧ Below w.heap.size w w' := by
  have HE := Lib.hid (ended_any s last)
  have HP := Lib.hid (atWork_any s 1 (s.sp - 1) now)
  by_cases h : s.sp = 0
  · have ha : aheadS s last now = endS s last := by unfold aheadS; rw [if_pos h]
    have hb : (s.sp == 0) = true := by simpa using h
    rw [ha]
    clear ha h
    go_enter Tryz.func125, Tryz.ntmps125
    go_wp2_with (first
      | (go_at_call 114; (with_reducible refine (HE.out _).mono ?_); rintro e w1 ⟨rfl, hm⟩; have HM := Lib.hid (two_made hm); clear hm)
      | (obtain ⟨cs, hcs, hsz⟩ := HM.out.1; refine wpList_store_row rfl 49 (.tmp 6) (.tmp 12) rfl (w.heap.size + 1) 49 cs (endS s last).arr rfl rfl hcs (sizeG _) hsz (oneG _) ?_))
    exact bodyPost_ret (res_sg rfl _ _ (w.heap.size + 1) (endS s last) rfl (box_row hcs _)) rfl ⟨rfl, made_row HM.out.2 (by omega) _⟩
  · have ha : aheadS s last now = putS s 1 (s.sp - 1) now := by unfold aheadS; rw [if_neg h]
    have hb : (s.sp == 0) = false := by simpa using h
    rw [ha]
    clear ha h
    go_enter Tryz.func125, Tryz.ntmps125
    go_wp2_with (first
      | (go_at_call 113; (with_reducible refine (HP.out _).mono ?_); rintro e w1 ⟨rfl, hm⟩; have HM := Lib.hid (two_made hm); clear hm)
      | (obtain ⟨cs, hcs, hsz⟩ := HM.out.1; refine wpList_store_row rfl 49 (.tmp 6) (.tmp 18) rfl (w.heap.size + 1) 49 cs (putS s 1 (s.sp - 1) now).arr rfl rfl hcs (sizeG _) hsz (oneG _) ?_))
    exact bodyPost_ret (res_sg rfl _ _ (w.heap.size + 1) (putS s 1 (s.sp - 1) now) rfl (box_row hcs _)) rfl ⟨rfl, made_row HM.out.2 (by omega) _⟩
end Go.Proofs.YteejocnogpaifaaGreatDoor.Sa
