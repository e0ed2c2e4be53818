/-
  What the statements' own do answers: an act is done with a saga.
  Conditions: the definition's steps lie in memory, its names are of moderate length.
-/
import Derived.Test.YtkmldgcnbjjbcaaGreatDoorSagUn
import Derived.Test.YtkmldgcnbjjbcaaGreatDoorSagReply
import Derived.Test.YtkmldgcnbjjbcaaGreatDoorSagEmit
import Derived.Test.YtkmldgcnbjjbcaaGreatDoorSagAwake
namespace Go.Proofs.YtkmldgcnbjjbcaaGreatDoor.Sa
open Go.RowKit Go.Sort
open Go.Proofs.YtkmldgcnbjjbcaaGreatDoor.El
open Go.Proofs.YtkmldgcnbjjbcaaGreatDoor.Bo (P Made ret_int ret_bool left wait)
open Go.Proofs.YtkmldgcnbjjbcaaGreatDoor.Df

def Ac.arr (a : Ac) : Array Value := #[.int .i64 a.k, .int .i64 a.now, .int .i64 a.r.sg, .int .i64 a.r.sp, .bool a.r.un, .int .i64 a.r.tr, .bool a.r.good]
/-- blocks that do has laid: a definition, a saga, an act, two results', a command -/
structure Eo (w w' : World) (nm : ByteArray) (dl : Int) (A : Option Addr) (n c : Nat) (s : Sg) (a : Ac) : Prop where
  e : Ed w w' nm dl A n c s
  a : Box w' (w.heap.size + 2) 30 a.arr
  q : Slot w' (w.heap.size + 3) 26 9
  k : Slot w' (w.heap.size + 4) 34 6
  c : Box w' (w.heap.size + 5) 34 cm0.arr
section
variable {w w' w2 : World} {nm : ByteArray} {dl : Int} {A : Option Addr} {n c : Nat} {s : Sg} {a : Ac}
theorem Eo.on (h : Eo w w' nm dl A n c s a) (hb : Below w'.heap.size w' w2) : Eo w w2 nm dl A n c s a := ⟨h.e.on hb, h.a.below hb h.a.lt, slot_on h.q hb, slot_on h.k hb, h.c.below hb h.c.lt⟩
theorem box_new5 (w : World) (o o' o2 o3 : Obj) (t : TypeId) (cs : Array Value) : Box (((((w.alloc o).alloc o').alloc o2).alloc o3).alloc (.cells cs t)) (w.heap.size + 4) t cs := by
  have := Box.new ((((w.alloc o).alloc o').alloc o2).alloc o3) t cs
  simpa using this
theorem box_new6 (w : World) (o o' o2 o3 o4 : Obj) (t : TypeId) (cs : Array Value) : Box ((((((w.alloc o).alloc o').alloc o2).alloc o3).alloc o4).alloc (.cells cs t)) (w.heap.size + 5) t cs := by
  have := Box.new (((((w.alloc o).alloc o').alloc o2).alloc o3).alloc o4) t cs
  simpa using this
theorem eo6 {cs cs' : Array Value} (hc : cs.size = 9) (hc' : cs'.size = 6) (h : Below ((((((w.alloc (.cells #[.string nm, .int .i64 dl, .slice A n c] 24)).alloc (.cells #[.int .i64 s.id, .string s.dn, .int .i64 s.st, .int .i64 s.ph, .int .i64 s.sp, .int .i64 s.tr, .bool s.out, .int .i64 s.at_, .int .i64 s.sk] 26)).alloc (.cells #[.int .i64 a.k, .int .i64 a.now, .int .i64 a.r.sg, .int .i64 a.r.sp, .bool a.r.un, .int .i64 a.r.tr, .bool a.r.good] 30)).alloc (.cells cs 26)).alloc (.cells cs' 34)).alloc (.cells cm0.arr 34)).heap.size ((((((w.alloc (.cells #[.string nm, .int .i64 dl, .slice A n c] 24)).alloc (.cells #[.int .i64 s.id, .string s.dn, .int .i64 s.st, .int .i64 s.ph, .int .i64 s.sp, .int .i64 s.tr, .bool s.out, .int .i64 s.at_, .int .i64 s.sk] 26)).alloc (.cells #[.int .i64 a.k, .int .i64 a.now, .int .i64 a.r.sg, .int .i64 a.r.sp, .bool a.r.un, .int .i64 a.r.tr, .bool a.r.good] 30)).alloc (.cells cs 26)).alloc (.cells cs' 34)).alloc (.cells cm0.arr 34)) w') : Eo w w' nm dl A n c s a :=
  Eo.on ⟨((((ed2 (Below.refl _ _)).on (al1 _ _)).on (al1 _ _)).on (al1 _ _)).on (al1 _ _), (((box_new3 w _ _ 30 a.arr).alloc _).alloc _).alloc _, Box.slot (((box_new4 w _ _ _ _ cs).alloc _).alloc _) hc, Box.slot ((box_new5 w _ _ _ _ _ cs').alloc _) hc', box_new6 w _ _ _ _ _ _ _⟩ h
theorem Eo.ac (h : Eo w w' nm dl A n c s a) : w'.cell? ⟨w.heap.size + 2, 0, none⟩ = some (.int .i64 a.k) ∧ w'.cell? ⟨w.heap.size + 2, 1, none⟩ = some (.int .i64 a.now) ∧ w'.cell? ⟨w.heap.size + 2, 2, none⟩ = some (.int .i64 a.r.sg) ∧ w'.cell? ⟨w.heap.size + 2, 3, none⟩ = some (.int .i64 a.r.sp) ∧ w'.cell? ⟨w.heap.size + 2, 4, none⟩ = some (.bool a.r.un) ∧ w'.cell? ⟨w.heap.size + 2, 5, none⟩ = some (.int .i64 a.r.tr) ∧ w'.cell? ⟨w.heap.size + 2, 6, none⟩ = some (.bool a.r.good) :=
  ⟨h.a.cell 0, h.a.cell 1, h.a.cell 2, h.a.cell 3, h.a.cell 4, h.a.cell 5, h.a.cell 6⟩
theorem Eo.setS (h : Eo w w' nm dl A n c s a) (X : Sg) : Eo w (w'.setRow (w.heap.size + 1) X.arr) nm dl A n c X a :=
  ⟨⟨box_far h.e.d (by omega) _, box_row h.e.s _, row_end h.e.b (by omega) _⟩, box_far h.a (by omega) _, slot_rowfar h.q (by omega) _, slot_rowfar h.k (by omega) _, box_far h.c (by omega) _⟩
theorem Eo.set3 (h : Eo w w' nm dl A n c s a) (X : Sg) : Eo w (w'.setRow (w.heap.size + 3) X.arr) nm dl A n c s a :=
  ⟨h.e.far (by omega) _, box_far h.a (by omega) _, Box.slot (h.q.row X.arr) rfl, slot_rowfar h.k (by omega) _, box_far h.c (by omega) _⟩
theorem Eo.set4 (h : Eo w w' nm dl A n c s a) (X : Cm) : Eo w (w'.setRow (w.heap.size + 4) X.arr) nm dl A n c s a :=
  ⟨h.e.far (by omega) _, box_far h.a (by omega) _, slot_rowfar h.q (by omega) _, Box.slot (h.k.row X.arr) rfl, box_far h.c (by omega) _⟩
theorem Eo.rows (h : Eo w w' nm dl A n c s a) (X : Sg) (C : Cm) : Box ((w'.setRow (w.heap.size + 3) X.arr).setRow (w.heap.size + 4) C.arr) (w.heap.size + 3) 26 X.arr ∧ Box ((w'.setRow (w.heap.size + 3) X.arr).setRow (w.heap.size + 4) C.arr) (w.heap.size + 4) 34 C.arr ∧ Below w.heap.size w ((w'.setRow (w.heap.size + 3) X.arr).setRow (w.heap.size + 4) C.arr) :=
  ⟨(setRow_other _ (w.heap.size + 4) (w.heap.size + 3) _ (by omega)).trans (h.q.row X.arr), (slot_rowfar h.k (by omega) X.arr).row C.arr, row_end (row_end h.e.b (by omega) _) (by omega) _⟩
end
theorem b6 (w : World) (o o' o2 o3 o4 o5 : Obj) : Below w.heap.size w ((((((w.alloc o).alloc o').alloc o2).alloc o3).alloc o4).alloc o5) := ((((made3 w o o' o2).trans (Made.alloc _ _)).trans (Made.alloc _ _)).trans (Made.alloc _ _)).below
section
variable (nm : ByteArray) (dl : Int) (A : Option Addr) (n c : Nat) (ss : List Stp) (s : Sg) (a : Ac) (w : World) (hd : Dn w nm A n c ss) (ht : s.tr ≤ 9223372036854775807) (hid : s.id ≤ 9223372036854775807)
include hd ht hid
set_option maxRecDepth 100000 in
set_option maxHeartbeats 4000000 in
theorem do0_any (hk : a.k = 0) : Calls Tryz.prog 7 #[.agg #[.string nm, .int .i64 dl, .slice A n c], .agg #[.int .i64 s.id, .string s.dn, .int .i64 s.st, .int .i64 s.ph, .int .i64 s.sp, .int .i64 s.tr, .bool s.out, .int .i64 s.at_, .int .i64 s.sk], .agg #[.int .i64 a.k, .int .i64 a.now, .int .i64 a.r.sg, .int .i64 a.r.sp, .bool a.r.un, .int .i64 a.r.tr, .bool a.r.good]] w fun e w' => e = .returned (.tuple #[.agg (doA nm dl ss s a).1.arr, .agg (doA nm dl ss s a).2.1.arr, .int .i64 (doA nm dl ss s a).2.2]) ∧ Below w.heap.size w w' := by
  have hX : doA nm dl ss s a = emitA nm dl ss s a.now := by unfold doA; rw [if_pos (by omega)]
  have HE := Lib.hid (fun W (hW : Below w.heap.size w W) => emit_any nm dl A n c ss s W (hd.on hW) a.now ht hid)
  rw [hX]
  generalize emitA nm dl ss s a.now = Y at *
  obtain ⟨y1, y2, y3⟩ := Y
  dsimp only at HE ⊢
  clear hX
  have q0 : (a.k == 0) = true := by simp [hk]
  clear hk hd ht hid
  go_enter Tryz.func7, Tryz.ntmps7
  go_wp2_with (first
    | (go_at_call 18; (with_reducible refine (HE.out _ (b6 w _ _ _ _ _ _)).mono ?_); rintro e w1 ⟨rfl, hm⟩; have H1 := Lib.hid (eo6 (s := s) (a := a) rfl rfl hm); clear hm; obtain ⟨d0, d1, d2⟩ := H1.out.e.cd; obtain ⟨c0, c1, c2, c3, c4, c5, c6, c7, c8⟩ := H1.out.e.cs; obtain ⟨a0, a1, a2, a3, a4, a5, a6⟩ := H1.out.ac)
    | (obtain ⟨cs, hcs, hsz⟩ := H1.out.q; refine wpList_store_row rfl 26 _ _ rfl (w.heap.size + 3) 26 cs (y1).arr rfl rfl hcs (sizeG _) hsz (oneG _) ?_)
    | (obtain ⟨ds, hds, hdsz⟩ := (Eo.set3 H1.out y1).k; refine wpList_store_row rfl 34 _ _ rfl (w.heap.size + 4) 34 ds (y2).arr rfl rfl hds (sizeC _) hdsz (oneC _) ?_))
  exact bodyPost_ret (res_sg_cm_tmp rfl _ _ (w.heap.size + 3) (w.heap.size + 4) y1 y2 rfl rfl (H1.out.rows y1 y2).1 (H1.out.rows y1 y2).2.1) rfl ⟨rfl, (H1.out.rows y1 y2).2.2⟩
set_option maxRecDepth 100000 in
set_option maxHeartbeats 4000000 in
theorem do1_any (hk : a.k = 1) : Calls Tryz.prog 7 #[.agg #[.string nm, .int .i64 dl, .slice A n c], .agg #[.int .i64 s.id, .string s.dn, .int .i64 s.st, .int .i64 s.ph, .int .i64 s.sp, .int .i64 s.tr, .bool s.out, .int .i64 s.at_, .int .i64 s.sk], .agg #[.int .i64 a.k, .int .i64 a.now, .int .i64 a.r.sg, .int .i64 a.r.sp, .bool a.r.un, .int .i64 a.r.tr, .bool a.r.good]] w fun e w' => e = .returned (.tuple #[.agg (doA nm dl ss s a).1.arr, .agg (doA nm dl ss s a).2.1.arr, .int .i64 (doA nm dl ss s a).2.2]) ∧ Below w.heap.size w w' := by
  have hX : doA nm dl ss s a = emitA nm dl ss s a.now := by unfold doA; rw [if_pos (by omega)]
  have HE := Lib.hid (fun W (hW : Below w.heap.size w W) => emit_any nm dl A n c ss s W (hd.on hW) a.now ht hid)
  rw [hX]
  generalize emitA nm dl ss s a.now = Y at *
  obtain ⟨y1, y2, y3⟩ := Y
  dsimp only at HE ⊢
  clear hX
  have q0 : (a.k == 0) = false := by simp [hk]
  have q1 : (a.k == 1) = true := by simp [hk]
  clear hk hd ht hid
  go_enter Tryz.func7, Tryz.ntmps7
  go_wp2_with (first
    | (go_at_call 18; (with_reducible refine (HE.out _ (b6 w _ _ _ _ _ _)).mono ?_); rintro e w1 ⟨rfl, hm⟩; have H1 := Lib.hid (eo6 (s := s) (a := a) rfl rfl hm); clear hm; obtain ⟨d0, d1, d2⟩ := H1.out.e.cd; obtain ⟨c0, c1, c2, c3, c4, c5, c6, c7, c8⟩ := H1.out.e.cs; obtain ⟨a0, a1, a2, a3, a4, a5, a6⟩ := H1.out.ac)
    | (obtain ⟨cs, hcs, hsz⟩ := H1.out.q; refine wpList_store_row rfl 26 _ _ rfl (w.heap.size + 3) 26 cs (y1).arr rfl rfl hcs (sizeG _) hsz (oneG _) ?_)
    | (obtain ⟨ds, hds, hdsz⟩ := (Eo.set3 H1.out y1).k; refine wpList_store_row rfl 34 _ _ rfl (w.heap.size + 4) 34 ds (y2).arr rfl rfl hds (sizeC _) hdsz (oneC _) ?_))
  exact bodyPost_ret (res_sg_cm_tmp rfl _ _ (w.heap.size + 3) (w.heap.size + 4) y1 y2 rfl rfl (H1.out.rows y1 y2).1 (H1.out.rows y1 y2).2.1) rfl ⟨rfl, (H1.out.rows y1 y2).2.2⟩
set_option maxRecDepth 100000 in
set_option maxHeartbeats 4000000 in
theorem do2_any (hk : a.k = 2) : Calls Tryz.prog 7 #[.agg #[.string nm, .int .i64 dl, .slice A n c], .agg #[.int .i64 s.id, .string s.dn, .int .i64 s.st, .int .i64 s.ph, .int .i64 s.sp, .int .i64 s.tr, .bool s.out, .int .i64 s.at_, .int .i64 s.sk], .agg #[.int .i64 a.k, .int .i64 a.now, .int .i64 a.r.sg, .int .i64 a.r.sp, .bool a.r.un, .int .i64 a.r.tr, .bool a.r.good]] w fun e w' => e = .returned (.tuple #[.agg (doA nm dl ss s a).1.arr, .agg (doA nm dl ss s a).2.1.arr, .int .i64 (doA nm dl ss s a).2.2]) ∧ Below w.heap.size w w' := by
  have hX : doA nm dl ss s a = emitA nm dl ss s a.now := by unfold doA; rw [if_pos (by omega)]
  have HE := Lib.hid (fun W (hW : Below w.heap.size w W) => emit_any nm dl A n c ss s W (hd.on hW) a.now ht hid)
  rw [hX]
  generalize emitA nm dl ss s a.now = Y at *
  obtain ⟨y1, y2, y3⟩ := Y
  dsimp only at HE ⊢
  clear hX
  have q0 : (a.k == 0) = false := by simp [hk]
  have q1 : (a.k == 1) = false := by simp [hk]
  have q2 : (a.k == 2) = true := by simp [hk]
  clear hk hd ht hid
  go_enter Tryz.func7, Tryz.ntmps7
  go_wp2_with (first
    | (go_at_call 18; (with_reducible refine (HE.out _ (b6 w _ _ _ _ _ _)).mono ?_); rintro e w1 ⟨rfl, hm⟩; have H1 := Lib.hid (eo6 (s := s) (a := a) rfl rfl hm); clear hm; obtain ⟨d0, d1, d2⟩ := H1.out.e.cd; obtain ⟨c0, c1, c2, c3, c4, c5, c6, c7, c8⟩ := H1.out.e.cs; obtain ⟨a0, a1, a2, a3, a4, a5, a6⟩ := H1.out.ac)
    | (obtain ⟨cs, hcs, hsz⟩ := H1.out.q; refine wpList_store_row rfl 26 _ _ rfl (w.heap.size + 3) 26 cs (y1).arr rfl rfl hcs (sizeG _) hsz (oneG _) ?_)
    | (obtain ⟨ds, hds, hdsz⟩ := (Eo.set3 H1.out y1).k; refine wpList_store_row rfl 34 _ _ rfl (w.heap.size + 4) 34 ds (y2).arr rfl rfl hds (sizeC _) hdsz (oneC _) ?_))
  exact bodyPost_ret (res_sg_cm_tmp rfl _ _ (w.heap.size + 3) (w.heap.size + 4) y1 y2 rfl rfl (H1.out.rows y1 y2).1 (H1.out.rows y1 y2).2.1) rfl ⟨rfl, (H1.out.rows y1 y2).2.2⟩
set_option maxRecDepth 100000 in
set_option maxHeartbeats 4000000 in
theorem do3_any (hk : a.k = 3) : Calls Tryz.prog 7 #[.agg #[.string nm, .int .i64 dl, .slice A n c], .agg #[.int .i64 s.id, .string s.dn, .int .i64 s.st, .int .i64 s.ph, .int .i64 s.sp, .int .i64 s.tr, .bool s.out, .int .i64 s.at_, .int .i64 s.sk], .agg #[.int .i64 a.k, .int .i64 a.now, .int .i64 a.r.sg, .int .i64 a.r.sp, .bool a.r.un, .int .i64 a.r.tr, .bool a.r.good]] w fun e w' => e = .returned (.tuple #[.agg (doA nm dl ss s a).1.arr, .agg (doA nm dl ss s a).2.1.arr, .int .i64 (doA nm dl ss s a).2.2]) ∧ Below w.heap.size w w' := by
  have hX : doA nm dl ss s a = ((replyA nm dl ss s a.r a.now).1, cm0, (replyA nm dl ss s a.r a.now).2) := by
    unfold doA
    rw [if_neg (by omega), if_pos (by omega)]
  have _hid := hid
  have _ht := ht
  have HE := Lib.hid (fun W (hW : Below w.heap.size w W) => reply_any nm dl A n c ss s a.r W (hd.on hW) a.now ht)
  rw [hX]
  generalize replyA nm dl ss s a.r a.now = Y at *
  obtain ⟨y1, y2⟩ := Y
  dsimp only at HE ⊢
  clear hX
  have q0 : (a.k == 0) = false := by simp [hk]
  have q1 : (a.k == 1) = false := by simp [hk]
  have q2 : (a.k == 2) = false := by simp [hk]
  have q3 : (a.k == 3) = true := by simp [hk]
  clear hk hd ht hid _hid _ht
  go_enter Tryz.func7, Tryz.ntmps7
  go_wp2_with (first
    | (go_at_call 20; (with_reducible refine (HE.out _ (b6 w _ _ _ _ _ _)).mono ?_); rintro e w1 ⟨rfl, hm⟩; have H1 := Lib.hid (eo6 (s := s) (a := a) rfl rfl hm); clear hm; obtain ⟨d0, d1, d2⟩ := H1.out.e.cd; obtain ⟨c0, c1, c2, c3, c4, c5, c6, c7, c8⟩ := H1.out.e.cs; obtain ⟨a0, a1, a2, a3, a4, a5, a6⟩ := H1.out.ac)
    | (obtain ⟨cs, hcs, hsz⟩ := (Box.slot H1.out.e.s rfl : Slot _ _ _ 9); refine wpList_store_row rfl 26 _ _ rfl (w.heap.size + 1) 26 cs (y1).arr rfl rfl hcs (sizeG _) hsz (oneG _) ?_))
  have H6 := Lib.hid (H1.out.setS y1)
  generalize w1.setRow (w.heap.size + 1) y1.arr = W6 at *
  have HS6 : (fun u => Eo w u nm dl A n c y1 a) W6.drew := H6.out.on (Below.drew (Below.refl _ _))
  have u0 : ∀ u, (fun u => Eo w u nm dl A n c y1 a) u → u.cell? ⟨w.heap.size + 1, 0, none⟩ = some (.int .i64 y1.id) := fun u H => H.e.s.cell 0
  have u1 : ∀ u, (fun u => Eo w u nm dl A n c y1 a) u → u.cell? ⟨w.heap.size + 1, 1, none⟩ = some (.string y1.dn) := fun u H => H.e.s.cell 1
  have u2 : ∀ u, (fun u => Eo w u nm dl A n c y1 a) u → u.cell? ⟨w.heap.size + 1, 2, none⟩ = some (.int .i64 y1.st) := fun u H => H.e.s.cell 2
  have u3 : ∀ u, (fun u => Eo w u nm dl A n c y1 a) u → u.cell? ⟨w.heap.size + 1, 3, none⟩ = some (.int .i64 y1.ph) := fun u H => H.e.s.cell 3
  have u4 : ∀ u, (fun u => Eo w u nm dl A n c y1 a) u → u.cell? ⟨w.heap.size + 1, 4, none⟩ = some (.int .i64 y1.sp) := fun u H => H.e.s.cell 4
  have u5 : ∀ u, (fun u => Eo w u nm dl A n c y1 a) u → u.cell? ⟨w.heap.size + 1, 5, none⟩ = some (.int .i64 y1.tr) := fun u H => H.e.s.cell 5
  have u6 : ∀ u, (fun u => Eo w u nm dl A n c y1 a) u → u.cell? ⟨w.heap.size + 1, 6, none⟩ = some (.bool y1.out) := fun u H => H.e.s.cell 6
  have u7 : ∀ u, (fun u => Eo w u nm dl A n c y1 a) u → u.cell? ⟨w.heap.size + 1, 7, none⟩ = some (.int .i64 y1.at_) := fun u H => H.e.s.cell 7
  have u8 : ∀ u, (fun u => Eo w u nm dl A n c y1 a) u → u.cell? ⟨w.heap.size + 1, 8, none⟩ = some (.int .i64 y1.sk) := fun u H => H.e.s.cell 8
  have k0 : ∀ u, (fun u => Eo w u nm dl A n c y1 a) u → u.cell? ⟨w.heap.size + 5, 0, none⟩ = some (.int .i64 0) := fun u H => H.c.cell 0
  have k1 : ∀ u, (fun u => Eo w u nm dl A n c y1 a) u → u.cell? ⟨w.heap.size + 5, 1, none⟩ = some (.int .i64 0) := fun u H => H.c.cell 1
  have k2 : ∀ u, (fun u => Eo w u nm dl A n c y1 a) u → u.cell? ⟨w.heap.size + 5, 2, none⟩ = some (.bool false) := fun u H => H.c.cell 2
  have k3 : ∀ u, (fun u => Eo w u nm dl A n c y1 a) u → u.cell? ⟨w.heap.size + 5, 3, none⟩ = some (.int .i64 0) := fun u H => H.c.cell 3
  have k4 : ∀ u, (fun u => Eo w u nm dl A n c y1 a) u → u.cell? ⟨w.heap.size + 5, 4, none⟩ = some (.string ⟨#[]⟩) := fun u H => H.c.cell 4
  have k5 : ∀ u, (fun u => Eo w u nm dl A n c y1 a) u → u.cell? ⟨w.heap.size + 5, 5, none⟩ = some (.string ⟨#[]⟩) := fun u H => H.c.cell 5
  refine wp_region_held_drew (S := fun u => Eo w u nm dl A n c y1 a) (by kernel_rfl) HS6 (fun hHeld => ?_)
  refine wpAnyH_take (i := 0) (oi := ⟨some 100, _, _, _, _, _⟩) (v := ?_) rfl (by kernel_rfl) (by kernel_rfl) (by kernel_rfl) (fun _ _ _ h => h) (Or.inl ⟨by rfl, ?_⟩) (by assumption) ?_
  rotate_left
  · (intro u hu; (try dsimp only at hu); go_simp; (try with_reducible rfl))
  (try simp only [Act.put, List.setIfInBounds_toArray, List.set_cons_zero, List.set_cons_succ])
  refine wpAnyH_take (i := 1) (oi := ⟨some 101, _, _, _, _, _⟩) (v := ?_) rfl (by kernel_rfl) (by kernel_rfl) (by kernel_rfl) (fun _ _ _ h => h) (Or.inl ⟨by rfl, ?_⟩) (by assumption) ?_
  rotate_left
  · (intro u hu; (try dsimp only at hu); go_simp; (try with_reducible rfl))
  (try simp only [Act.put, List.setIfInBounds_toArray, List.set_cons_zero, List.set_cons_succ])
  refine wpAnyH_take (i := 2) (oi := ⟨some 102, _, _, _, _, _⟩) (v := ?_) rfl (by kernel_rfl) (by kernel_rfl) (by kernel_rfl) (fun _ _ _ h => h) (Or.inl ⟨by rfl, ?_⟩) (by assumption) ?_
  rotate_left
  · (intro u hu; (try dsimp only at hu); go_simp; (try with_reducible rfl))
  (try simp only [Act.put, List.setIfInBounds_toArray, List.set_cons_zero, List.set_cons_succ])
  refine wpAnyH_ready (rs := [3]) (by kernel_rfl) (by simp) ?_
  refine AllReadyH.cons (o := ⟨none, _, _, _, _, _⟩) rfl (fun K hK => ?_) AllReadyH.nil
  rw [if_pos (by rfl)]
  obtain ⟨cs, hcs, hsz⟩ := HS6.q
  refine oper_store_row 26 _ _ rfl (w.heap.size + 3) 26 cs (y1).arr rfl rfl hcs (sizeG _) hsz (oneG _) ?_
  refine hK.out _ _ ?_ (fun hHeld => ?_)
  · exact Eo.set3 HS6 _
  clear hK K hcs hsz
  (try simp only [Act.put])
  refine wpAnyH_ready (rs := [4]) (by kernel_rfl) (by simp) ?_
  refine AllReadyH.cons (o := ⟨none, _, _, _, _, _⟩) rfl (fun K hK => ?_) AllReadyH.nil
  rw [if_pos (by rfl)]
  obtain ⟨cs, hcs, hsz⟩ := (Eo.set3 HS6 _).k
  refine oper_store_row 34 _ _ rfl (w.heap.size + 4) 34 cs (cm0).arr rfl rfl hcs (sizeC _) hsz (oneC _) ?_
  refine hK.out _ _ ?_ (fun hHeld => ?_)
  · exact Eo.set4 (Eo.set3 HS6 _) _
  clear hK K hcs hsz
  (try simp only [Act.put])
  refine wpAnyH_take (i := 5) (oi := ⟨some 8, _, _, _, _, _⟩) (v := ?_) rfl (by kernel_rfl) (by kernel_rfl) (by kernel_rfl) (fun _ _ _ h => h) (Or.inl ⟨by rfl, ?_⟩) (by assumption) ?_
  rotate_left
  · (intro u hu; (try dsimp only at hu); go_simp; (try with_reducible rfl))
  (try simp only [Act.put, List.setIfInBounds_toArray, List.set_cons_zero, List.set_cons_succ])
  refine wpAnyH_done (by kernel_rfl) ?_ _
  go_wp2
  exact bodyPost_ret (res_sg_cm_tmp rfl _ _ (w.heap.size + 3) (w.heap.size + 4) y1 cm0 rfl rfl (Eo.rows HS6 y1 cm0).1 (Eo.rows HS6 y1 cm0).2.1) rfl ⟨rfl, (Eo.rows HS6 y1 cm0).2.2⟩
set_option maxRecDepth 100000 in
set_option maxHeartbeats 4000000 in
theorem do4_any (hk : a.k = 4) : Calls Tryz.prog 7 #[.agg #[.string nm, .int .i64 dl, .slice A n c], .agg #[.int .i64 s.id, .string s.dn, .int .i64 s.st, .int .i64 s.ph, .int .i64 s.sp, .int .i64 s.tr, .bool s.out, .int .i64 s.at_, .int .i64 s.sk], .agg #[.int .i64 a.k, .int .i64 a.now, .int .i64 a.r.sg, .int .i64 a.r.sp, .bool a.r.un, .int .i64 a.r.tr, .bool a.r.good]] w fun e w' => e = .returned (.tuple #[.agg (doA nm dl ss s a).1.arr, .agg (doA nm dl ss s a).2.1.arr, .int .i64 (doA nm dl ss s a).2.2]) ∧ Below w.heap.size w w' := by
  have hX : doA nm dl ss s a = ((replyA nm dl ss s a.r a.now).1, cm0, (replyA nm dl ss s a.r a.now).2) := by
    unfold doA
    rw [if_neg (by omega), if_pos (by omega)]
  have _hid := hid
  have _ht := ht
  have HE := Lib.hid (fun W (hW : Below w.heap.size w W) => reply_any nm dl A n c ss s a.r W (hd.on hW) a.now ht)
  rw [hX]
  generalize replyA nm dl ss s a.r a.now = Y at *
  obtain ⟨y1, y2⟩ := Y
  dsimp only at HE ⊢
  clear hX
  have q0 : (a.k == 0) = false := by simp [hk]
  have q1 : (a.k == 1) = false := by simp [hk]
  have q2 : (a.k == 2) = false := by simp [hk]
  have q3 : (a.k == 3) = false := by simp [hk]
  have q4 : (a.k == 4) = true := by simp [hk]
  clear hk hd ht hid _hid _ht
  go_enter Tryz.func7, Tryz.ntmps7
  go_wp2_with (first
    | (go_at_call 20; (with_reducible refine (HE.out _ (b6 w _ _ _ _ _ _)).mono ?_); rintro e w1 ⟨rfl, hm⟩; have H1 := Lib.hid (eo6 (s := s) (a := a) rfl rfl hm); clear hm; obtain ⟨d0, d1, d2⟩ := H1.out.e.cd; obtain ⟨c0, c1, c2, c3, c4, c5, c6, c7, c8⟩ := H1.out.e.cs; obtain ⟨a0, a1, a2, a3, a4, a5, a6⟩ := H1.out.ac)
    | (obtain ⟨cs, hcs, hsz⟩ := (Box.slot H1.out.e.s rfl : Slot _ _ _ 9); refine wpList_store_row rfl 26 _ _ rfl (w.heap.size + 1) 26 cs (y1).arr rfl rfl hcs (sizeG _) hsz (oneG _) ?_))
  have H6 := Lib.hid (H1.out.setS y1)
  generalize w1.setRow (w.heap.size + 1) y1.arr = W6 at *
  have HS6 : (fun u => Eo w u nm dl A n c y1 a) W6.drew := H6.out.on (Below.drew (Below.refl _ _))
  have u0 : ∀ u, (fun u => Eo w u nm dl A n c y1 a) u → u.cell? ⟨w.heap.size + 1, 0, none⟩ = some (.int .i64 y1.id) := fun u H => H.e.s.cell 0
  have u1 : ∀ u, (fun u => Eo w u nm dl A n c y1 a) u → u.cell? ⟨w.heap.size + 1, 1, none⟩ = some (.string y1.dn) := fun u H => H.e.s.cell 1
  have u2 : ∀ u, (fun u => Eo w u nm dl A n c y1 a) u → u.cell? ⟨w.heap.size + 1, 2, none⟩ = some (.int .i64 y1.st) := fun u H => H.e.s.cell 2
  have u3 : ∀ u, (fun u => Eo w u nm dl A n c y1 a) u → u.cell? ⟨w.heap.size + 1, 3, none⟩ = some (.int .i64 y1.ph) := fun u H => H.e.s.cell 3
  have u4 : ∀ u, (fun u => Eo w u nm dl A n c y1 a) u → u.cell? ⟨w.heap.size + 1, 4, none⟩ = some (.int .i64 y1.sp) := fun u H => H.e.s.cell 4
  have u5 : ∀ u, (fun u => Eo w u nm dl A n c y1 a) u → u.cell? ⟨w.heap.size + 1, 5, none⟩ = some (.int .i64 y1.tr) := fun u H => H.e.s.cell 5
  have u6 : ∀ u, (fun u => Eo w u nm dl A n c y1 a) u → u.cell? ⟨w.heap.size + 1, 6, none⟩ = some (.bool y1.out) := fun u H => H.e.s.cell 6
  have u7 : ∀ u, (fun u => Eo w u nm dl A n c y1 a) u → u.cell? ⟨w.heap.size + 1, 7, none⟩ = some (.int .i64 y1.at_) := fun u H => H.e.s.cell 7
  have u8 : ∀ u, (fun u => Eo w u nm dl A n c y1 a) u → u.cell? ⟨w.heap.size + 1, 8, none⟩ = some (.int .i64 y1.sk) := fun u H => H.e.s.cell 8
  have k0 : ∀ u, (fun u => Eo w u nm dl A n c y1 a) u → u.cell? ⟨w.heap.size + 5, 0, none⟩ = some (.int .i64 0) := fun u H => H.c.cell 0
  have k1 : ∀ u, (fun u => Eo w u nm dl A n c y1 a) u → u.cell? ⟨w.heap.size + 5, 1, none⟩ = some (.int .i64 0) := fun u H => H.c.cell 1
  have k2 : ∀ u, (fun u => Eo w u nm dl A n c y1 a) u → u.cell? ⟨w.heap.size + 5, 2, none⟩ = some (.bool false) := fun u H => H.c.cell 2
  have k3 : ∀ u, (fun u => Eo w u nm dl A n c y1 a) u → u.cell? ⟨w.heap.size + 5, 3, none⟩ = some (.int .i64 0) := fun u H => H.c.cell 3
  have k4 : ∀ u, (fun u => Eo w u nm dl A n c y1 a) u → u.cell? ⟨w.heap.size + 5, 4, none⟩ = some (.string ⟨#[]⟩) := fun u H => H.c.cell 4
  have k5 : ∀ u, (fun u => Eo w u nm dl A n c y1 a) u → u.cell? ⟨w.heap.size + 5, 5, none⟩ = some (.string ⟨#[]⟩) := fun u H => H.c.cell 5
  refine wp_region_held_drew (S := fun u => Eo w u nm dl A n c y1 a) (by kernel_rfl) HS6 (fun hHeld => ?_)
  refine wpAnyH_take (i := 0) (oi := ⟨some 100, _, _, _, _, _⟩) (v := ?_) rfl (by kernel_rfl) (by kernel_rfl) (by kernel_rfl) (fun _ _ _ h => h) (Or.inl ⟨by rfl, ?_⟩) (by assumption) ?_
  rotate_left
  · (intro u hu; (try dsimp only at hu); go_simp; (try with_reducible rfl))
  (try simp only [Act.put, List.setIfInBounds_toArray, List.set_cons_zero, List.set_cons_succ])
  refine wpAnyH_take (i := 1) (oi := ⟨some 101, _, _, _, _, _⟩) (v := ?_) rfl (by kernel_rfl) (by kernel_rfl) (by kernel_rfl) (fun _ _ _ h => h) (Or.inl ⟨by rfl, ?_⟩) (by assumption) ?_
  rotate_left
  · (intro u hu; (try dsimp only at hu); go_simp; (try with_reducible rfl))
  (try simp only [Act.put, List.setIfInBounds_toArray, List.set_cons_zero, List.set_cons_succ])
  refine wpAnyH_take (i := 2) (oi := ⟨some 102, _, _, _, _, _⟩) (v := ?_) rfl (by kernel_rfl) (by kernel_rfl) (by kernel_rfl) (fun _ _ _ h => h) (Or.inl ⟨by rfl, ?_⟩) (by assumption) ?_
  rotate_left
  · (intro u hu; (try dsimp only at hu); go_simp; (try with_reducible rfl))
  (try simp only [Act.put, List.setIfInBounds_toArray, List.set_cons_zero, List.set_cons_succ])
  refine wpAnyH_ready (rs := [3]) (by kernel_rfl) (by simp) ?_
  refine AllReadyH.cons (o := ⟨none, _, _, _, _, _⟩) rfl (fun K hK => ?_) AllReadyH.nil
  rw [if_pos (by rfl)]
  obtain ⟨cs, hcs, hsz⟩ := HS6.q
  refine oper_store_row 26 _ _ rfl (w.heap.size + 3) 26 cs (y1).arr rfl rfl hcs (sizeG _) hsz (oneG _) ?_
  refine hK.out _ _ ?_ (fun hHeld => ?_)
  · exact Eo.set3 HS6 _
  clear hK K hcs hsz
  (try simp only [Act.put])
  refine wpAnyH_ready (rs := [4]) (by kernel_rfl) (by simp) ?_
  refine AllReadyH.cons (o := ⟨none, _, _, _, _, _⟩) rfl (fun K hK => ?_) AllReadyH.nil
  rw [if_pos (by rfl)]
  obtain ⟨cs, hcs, hsz⟩ := (Eo.set3 HS6 _).k
  refine oper_store_row 34 _ _ rfl (w.heap.size + 4) 34 cs (cm0).arr rfl rfl hcs (sizeC _) hsz (oneC _) ?_
  refine hK.out _ _ ?_ (fun hHeld => ?_)
  · exact Eo.set4 (Eo.set3 HS6 _) _
  clear hK K hcs hsz
  (try simp only [Act.put])
  refine wpAnyH_take (i := 5) (oi := ⟨some 8, _, _, _, _, _⟩) (v := ?_) rfl (by kernel_rfl) (by kernel_rfl) (by kernel_rfl) (fun _ _ _ h => h) (Or.inl ⟨by rfl, ?_⟩) (by assumption) ?_
  rotate_left
  · (intro u hu; (try dsimp only at hu); go_simp; (try with_reducible rfl))
  (try simp only [Act.put, List.setIfInBounds_toArray, List.set_cons_zero, List.set_cons_succ])
  refine wpAnyH_done (by kernel_rfl) ?_ _
  go_wp2
  exact bodyPost_ret (res_sg_cm_tmp rfl _ _ (w.heap.size + 3) (w.heap.size + 4) y1 cm0 rfl rfl (Eo.rows HS6 y1 cm0).1 (Eo.rows HS6 y1 cm0).2.1) rfl ⟨rfl, (Eo.rows HS6 y1 cm0).2.2⟩
set_option maxRecDepth 100000 in
set_option maxHeartbeats 4000000 in
theorem do5_any (hk : a.k = 5) : Calls Tryz.prog 7 #[.agg #[.string nm, .int .i64 dl, .slice A n c], .agg #[.int .i64 s.id, .string s.dn, .int .i64 s.st, .int .i64 s.ph, .int .i64 s.sp, .int .i64 s.tr, .bool s.out, .int .i64 s.at_, .int .i64 s.sk], .agg #[.int .i64 a.k, .int .i64 a.now, .int .i64 a.r.sg, .int .i64 a.r.sp, .bool a.r.un, .int .i64 a.r.tr, .bool a.r.good]] w fun e w' => e = .returned (.tuple #[.agg (doA nm dl ss s a).1.arr, .agg (doA nm dl ss s a).2.1.arr, .int .i64 (doA nm dl ss s a).2.2]) ∧ Below w.heap.size w w' := by
  have hX : doA nm dl ss s a = ((replyA nm dl ss s a.r a.now).1, cm0, (replyA nm dl ss s a.r a.now).2) := by
    unfold doA
    rw [if_neg (by omega), if_pos (by omega)]
  have _hid := hid
  have _ht := ht
  have HE := Lib.hid (fun W (hW : Below w.heap.size w W) => reply_any nm dl A n c ss s a.r W (hd.on hW) a.now ht)
  rw [hX]
  generalize replyA nm dl ss s a.r a.now = Y at *
  obtain ⟨y1, y2⟩ := Y
  dsimp only at HE ⊢
  clear hX
  have q0 : (a.k == 0) = false := by simp [hk]
  have q1 : (a.k == 1) = false := by simp [hk]
  have q2 : (a.k == 2) = false := by simp [hk]
  have q3 : (a.k == 3) = false := by simp [hk]
  have q4 : (a.k == 4) = false := by simp [hk]
  have q5 : (a.k == 5) = true := by simp [hk]
  clear hk hd ht hid _hid _ht
  go_enter Tryz.func7, Tryz.ntmps7
  go_wp2_with (first
    | (go_at_call 20; (with_reducible refine (HE.out _ (b6 w _ _ _ _ _ _)).mono ?_); rintro e w1 ⟨rfl, hm⟩; have H1 := Lib.hid (eo6 (s := s) (a := a) rfl rfl hm); clear hm; obtain ⟨d0, d1, d2⟩ := H1.out.e.cd; obtain ⟨c0, c1, c2, c3, c4, c5, c6, c7, c8⟩ := H1.out.e.cs; obtain ⟨a0, a1, a2, a3, a4, a5, a6⟩ := H1.out.ac)
    | (obtain ⟨cs, hcs, hsz⟩ := (Box.slot H1.out.e.s rfl : Slot _ _ _ 9); refine wpList_store_row rfl 26 _ _ rfl (w.heap.size + 1) 26 cs (y1).arr rfl rfl hcs (sizeG _) hsz (oneG _) ?_))
  have H6 := Lib.hid (H1.out.setS y1)
  generalize w1.setRow (w.heap.size + 1) y1.arr = W6 at *
  have HS6 : (fun u => Eo w u nm dl A n c y1 a) W6.drew := H6.out.on (Below.drew (Below.refl _ _))
  have u0 : ∀ u, (fun u => Eo w u nm dl A n c y1 a) u → u.cell? ⟨w.heap.size + 1, 0, none⟩ = some (.int .i64 y1.id) := fun u H => H.e.s.cell 0
  have u1 : ∀ u, (fun u => Eo w u nm dl A n c y1 a) u → u.cell? ⟨w.heap.size + 1, 1, none⟩ = some (.string y1.dn) := fun u H => H.e.s.cell 1
  have u2 : ∀ u, (fun u => Eo w u nm dl A n c y1 a) u → u.cell? ⟨w.heap.size + 1, 2, none⟩ = some (.int .i64 y1.st) := fun u H => H.e.s.cell 2
  have u3 : ∀ u, (fun u => Eo w u nm dl A n c y1 a) u → u.cell? ⟨w.heap.size + 1, 3, none⟩ = some (.int .i64 y1.ph) := fun u H => H.e.s.cell 3
  have u4 : ∀ u, (fun u => Eo w u nm dl A n c y1 a) u → u.cell? ⟨w.heap.size + 1, 4, none⟩ = some (.int .i64 y1.sp) := fun u H => H.e.s.cell 4
  have u5 : ∀ u, (fun u => Eo w u nm dl A n c y1 a) u → u.cell? ⟨w.heap.size + 1, 5, none⟩ = some (.int .i64 y1.tr) := fun u H => H.e.s.cell 5
  have u6 : ∀ u, (fun u => Eo w u nm dl A n c y1 a) u → u.cell? ⟨w.heap.size + 1, 6, none⟩ = some (.bool y1.out) := fun u H => H.e.s.cell 6
  have u7 : ∀ u, (fun u => Eo w u nm dl A n c y1 a) u → u.cell? ⟨w.heap.size + 1, 7, none⟩ = some (.int .i64 y1.at_) := fun u H => H.e.s.cell 7
  have u8 : ∀ u, (fun u => Eo w u nm dl A n c y1 a) u → u.cell? ⟨w.heap.size + 1, 8, none⟩ = some (.int .i64 y1.sk) := fun u H => H.e.s.cell 8
  have k0 : ∀ u, (fun u => Eo w u nm dl A n c y1 a) u → u.cell? ⟨w.heap.size + 5, 0, none⟩ = some (.int .i64 0) := fun u H => H.c.cell 0
  have k1 : ∀ u, (fun u => Eo w u nm dl A n c y1 a) u → u.cell? ⟨w.heap.size + 5, 1, none⟩ = some (.int .i64 0) := fun u H => H.c.cell 1
  have k2 : ∀ u, (fun u => Eo w u nm dl A n c y1 a) u → u.cell? ⟨w.heap.size + 5, 2, none⟩ = some (.bool false) := fun u H => H.c.cell 2
  have k3 : ∀ u, (fun u => Eo w u nm dl A n c y1 a) u → u.cell? ⟨w.heap.size + 5, 3, none⟩ = some (.int .i64 0) := fun u H => H.c.cell 3
  have k4 : ∀ u, (fun u => Eo w u nm dl A n c y1 a) u → u.cell? ⟨w.heap.size + 5, 4, none⟩ = some (.string ⟨#[]⟩) := fun u H => H.c.cell 4
  have k5 : ∀ u, (fun u => Eo w u nm dl A n c y1 a) u → u.cell? ⟨w.heap.size + 5, 5, none⟩ = some (.string ⟨#[]⟩) := fun u H => H.c.cell 5
  refine wp_region_held_drew (S := fun u => Eo w u nm dl A n c y1 a) (by kernel_rfl) HS6 (fun hHeld => ?_)
  refine wpAnyH_take (i := 0) (oi := ⟨some 100, _, _, _, _, _⟩) (v := ?_) rfl (by kernel_rfl) (by kernel_rfl) (by kernel_rfl) (fun _ _ _ h => h) (Or.inl ⟨by rfl, ?_⟩) (by assumption) ?_
  rotate_left
  · (intro u hu; (try dsimp only at hu); go_simp; (try with_reducible rfl))
  (try simp only [Act.put, List.setIfInBounds_toArray, List.set_cons_zero, List.set_cons_succ])
  refine wpAnyH_take (i := 1) (oi := ⟨some 101, _, _, _, _, _⟩) (v := ?_) rfl (by kernel_rfl) (by kernel_rfl) (by kernel_rfl) (fun _ _ _ h => h) (Or.inl ⟨by rfl, ?_⟩) (by assumption) ?_
  rotate_left
  · (intro u hu; (try dsimp only at hu); go_simp; (try with_reducible rfl))
  (try simp only [Act.put, List.setIfInBounds_toArray, List.set_cons_zero, List.set_cons_succ])
  refine wpAnyH_take (i := 2) (oi := ⟨some 102, _, _, _, _, _⟩) (v := ?_) rfl (by kernel_rfl) (by kernel_rfl) (by kernel_rfl) (fun _ _ _ h => h) (Or.inl ⟨by rfl, ?_⟩) (by assumption) ?_
  rotate_left
  · (intro u hu; (try dsimp only at hu); go_simp; (try with_reducible rfl))
  (try simp only [Act.put, List.setIfInBounds_toArray, List.set_cons_zero, List.set_cons_succ])
  refine wpAnyH_ready (rs := [3]) (by kernel_rfl) (by simp) ?_
  refine AllReadyH.cons (o := ⟨none, _, _, _, _, _⟩) rfl (fun K hK => ?_) AllReadyH.nil
  rw [if_pos (by rfl)]
  obtain ⟨cs, hcs, hsz⟩ := HS6.q
  refine oper_store_row 26 _ _ rfl (w.heap.size + 3) 26 cs (y1).arr rfl rfl hcs (sizeG _) hsz (oneG _) ?_
  refine hK.out _ _ ?_ (fun hHeld => ?_)
  · exact Eo.set3 HS6 _
  clear hK K hcs hsz
  (try simp only [Act.put])
  refine wpAnyH_ready (rs := [4]) (by kernel_rfl) (by simp) ?_
  refine AllReadyH.cons (o := ⟨none, _, _, _, _, _⟩) rfl (fun K hK => ?_) AllReadyH.nil
  rw [if_pos (by rfl)]
  obtain ⟨cs, hcs, hsz⟩ := (Eo.set3 HS6 _).k
  refine oper_store_row 34 _ _ rfl (w.heap.size + 4) 34 cs (cm0).arr rfl rfl hcs (sizeC _) hsz (oneC _) ?_
  refine hK.out _ _ ?_ (fun hHeld => ?_)
  · exact Eo.set4 (Eo.set3 HS6 _) _
  clear hK K hcs hsz
  (try simp only [Act.put])
  refine wpAnyH_take (i := 5) (oi := ⟨some 8, _, _, _, _, _⟩) (v := ?_) rfl (by kernel_rfl) (by kernel_rfl) (by kernel_rfl) (fun _ _ _ h => h) (Or.inl ⟨by rfl, ?_⟩) (by assumption) ?_
  rotate_left
  · (intro u hu; (try dsimp only at hu); go_simp; (try with_reducible rfl))
  (try simp only [Act.put, List.setIfInBounds_toArray, List.set_cons_zero, List.set_cons_succ])
  refine wpAnyH_done (by kernel_rfl) ?_ _
  go_wp2
  exact bodyPost_ret (res_sg_cm_tmp rfl _ _ (w.heap.size + 3) (w.heap.size + 4) y1 cm0 rfl rfl (Eo.rows HS6 y1 cm0).1 (Eo.rows HS6 y1 cm0).2.1) rfl ⟨rfl, (Eo.rows HS6 y1 cm0).2.2⟩
set_option maxRecDepth 100000 in
set_option maxHeartbeats 4000000 in
theorem do6_any (hk : a.k = 6) : Calls Tryz.prog 7 #[.agg #[.string nm, .int .i64 dl, .slice A n c], .agg #[.int .i64 s.id, .string s.dn, .int .i64 s.st, .int .i64 s.ph, .int .i64 s.sp, .int .i64 s.tr, .bool s.out, .int .i64 s.at_, .int .i64 s.sk], .agg #[.int .i64 a.k, .int .i64 a.now, .int .i64 a.r.sg, .int .i64 a.r.sp, .bool a.r.un, .int .i64 a.r.tr, .bool a.r.good]] w fun e w' => e = .returned (.tuple #[.agg (doA nm dl ss s a).1.arr, .agg (doA nm dl ss s a).2.1.arr, .int .i64 (doA nm dl ss s a).2.2]) ∧ Below w.heap.size w w' := by
  have hX : doA nm dl ss s a = ((lateA nm dl ss s a.now).1, cm0, (lateA nm dl ss s a.now).2) := by
    unfold doA numA
    rw [if_neg (by omega), if_neg (by omega), if_pos (by omega)]
    rw [if_pos (by omega)]
  have _hid := hid
  have _ht := ht
  have HE := Lib.hid (fun W (hW : Below w.heap.size w W) => late_any nm dl A n c ss s W (hd.on hW) a.now ht)
  rw [hX]
  generalize lateA nm dl ss s a.now = Y at *
  obtain ⟨y1, y2⟩ := Y
  dsimp only at HE ⊢
  clear hX
  have q0 : (a.k == 0) = false := by simp [hk]
  have q1 : (a.k == 1) = false := by simp [hk]
  have q2 : (a.k == 2) = false := by simp [hk]
  have q3 : (a.k == 3) = false := by simp [hk]
  have q4 : (a.k == 4) = false := by simp [hk]
  have q5 : (a.k == 5) = false := by simp [hk]
  have q6 : (a.k == 6) = true := by simp [hk]
  clear hk hd ht hid _hid _ht
  go_enter Tryz.func7, Tryz.ntmps7
  go_wp2_with (first
    | (go_at_call 19; (with_reducible refine (HE.out _ (b6 w _ _ _ _ _ _)).mono ?_); rintro e w1 ⟨rfl, hm⟩; have H1 := Lib.hid (eo6 (s := s) (a := a) rfl rfl hm); clear hm; obtain ⟨d0, d1, d2⟩ := H1.out.e.cd; obtain ⟨c0, c1, c2, c3, c4, c5, c6, c7, c8⟩ := H1.out.e.cs; obtain ⟨a0, a1, a2, a3, a4, a5, a6⟩ := H1.out.ac)
    | (obtain ⟨cs, hcs, hsz⟩ := (Box.slot H1.out.e.s rfl : Slot _ _ _ 9); refine wpList_store_row rfl 26 _ _ rfl (w.heap.size + 1) 26 cs (y1).arr rfl rfl hcs (sizeG _) hsz (oneG _) ?_))
  have H6 := Lib.hid (H1.out.setS y1)
  generalize w1.setRow (w.heap.size + 1) y1.arr = W6 at *
  have HS6 : (fun u => Eo w u nm dl A n c y1 a) W6.drew := H6.out.on (Below.drew (Below.refl _ _))
  have u0 : ∀ u, (fun u => Eo w u nm dl A n c y1 a) u → u.cell? ⟨w.heap.size + 1, 0, none⟩ = some (.int .i64 y1.id) := fun u H => H.e.s.cell 0
  have u1 : ∀ u, (fun u => Eo w u nm dl A n c y1 a) u → u.cell? ⟨w.heap.size + 1, 1, none⟩ = some (.string y1.dn) := fun u H => H.e.s.cell 1
  have u2 : ∀ u, (fun u => Eo w u nm dl A n c y1 a) u → u.cell? ⟨w.heap.size + 1, 2, none⟩ = some (.int .i64 y1.st) := fun u H => H.e.s.cell 2
  have u3 : ∀ u, (fun u => Eo w u nm dl A n c y1 a) u → u.cell? ⟨w.heap.size + 1, 3, none⟩ = some (.int .i64 y1.ph) := fun u H => H.e.s.cell 3
  have u4 : ∀ u, (fun u => Eo w u nm dl A n c y1 a) u → u.cell? ⟨w.heap.size + 1, 4, none⟩ = some (.int .i64 y1.sp) := fun u H => H.e.s.cell 4
  have u5 : ∀ u, (fun u => Eo w u nm dl A n c y1 a) u → u.cell? ⟨w.heap.size + 1, 5, none⟩ = some (.int .i64 y1.tr) := fun u H => H.e.s.cell 5
  have u6 : ∀ u, (fun u => Eo w u nm dl A n c y1 a) u → u.cell? ⟨w.heap.size + 1, 6, none⟩ = some (.bool y1.out) := fun u H => H.e.s.cell 6
  have u7 : ∀ u, (fun u => Eo w u nm dl A n c y1 a) u → u.cell? ⟨w.heap.size + 1, 7, none⟩ = some (.int .i64 y1.at_) := fun u H => H.e.s.cell 7
  have u8 : ∀ u, (fun u => Eo w u nm dl A n c y1 a) u → u.cell? ⟨w.heap.size + 1, 8, none⟩ = some (.int .i64 y1.sk) := fun u H => H.e.s.cell 8
  have k0 : ∀ u, (fun u => Eo w u nm dl A n c y1 a) u → u.cell? ⟨w.heap.size + 5, 0, none⟩ = some (.int .i64 0) := fun u H => H.c.cell 0
  have k1 : ∀ u, (fun u => Eo w u nm dl A n c y1 a) u → u.cell? ⟨w.heap.size + 5, 1, none⟩ = some (.int .i64 0) := fun u H => H.c.cell 1
  have k2 : ∀ u, (fun u => Eo w u nm dl A n c y1 a) u → u.cell? ⟨w.heap.size + 5, 2, none⟩ = some (.bool false) := fun u H => H.c.cell 2
  have k3 : ∀ u, (fun u => Eo w u nm dl A n c y1 a) u → u.cell? ⟨w.heap.size + 5, 3, none⟩ = some (.int .i64 0) := fun u H => H.c.cell 3
  have k4 : ∀ u, (fun u => Eo w u nm dl A n c y1 a) u → u.cell? ⟨w.heap.size + 5, 4, none⟩ = some (.string ⟨#[]⟩) := fun u H => H.c.cell 4
  have k5 : ∀ u, (fun u => Eo w u nm dl A n c y1 a) u → u.cell? ⟨w.heap.size + 5, 5, none⟩ = some (.string ⟨#[]⟩) := fun u H => H.c.cell 5
  refine wp_region_held_drew (S := fun u => Eo w u nm dl A n c y1 a) (by kernel_rfl) HS6 (fun hHeld => ?_)
  refine wpAnyH_take (i := 0) (oi := ⟨some 100, _, _, _, _, _⟩) (v := ?_) rfl (by kernel_rfl) (by kernel_rfl) (by kernel_rfl) (fun _ _ _ h => h) (Or.inl ⟨by rfl, ?_⟩) (by assumption) ?_
  rotate_left
  · (intro u hu; (try dsimp only at hu); go_simp; (try with_reducible rfl))
  (try simp only [Act.put, List.setIfInBounds_toArray, List.set_cons_zero, List.set_cons_succ])
  refine wpAnyH_take (i := 1) (oi := ⟨some 101, _, _, _, _, _⟩) (v := ?_) rfl (by kernel_rfl) (by kernel_rfl) (by kernel_rfl) (fun _ _ _ h => h) (Or.inl ⟨by rfl, ?_⟩) (by assumption) ?_
  rotate_left
  · (intro u hu; (try dsimp only at hu); go_simp; (try with_reducible rfl))
  (try simp only [Act.put, List.setIfInBounds_toArray, List.set_cons_zero, List.set_cons_succ])
  refine wpAnyH_take (i := 2) (oi := ⟨some 102, _, _, _, _, _⟩) (v := ?_) rfl (by kernel_rfl) (by kernel_rfl) (by kernel_rfl) (fun _ _ _ h => h) (Or.inl ⟨by rfl, ?_⟩) (by assumption) ?_
  rotate_left
  · (intro u hu; (try dsimp only at hu); go_simp; (try with_reducible rfl))
  (try simp only [Act.put, List.setIfInBounds_toArray, List.set_cons_zero, List.set_cons_succ])
  refine wpAnyH_ready (rs := [3]) (by kernel_rfl) (by simp) ?_
  refine AllReadyH.cons (o := ⟨none, _, _, _, _, _⟩) rfl (fun K hK => ?_) AllReadyH.nil
  rw [if_pos (by rfl)]
  obtain ⟨cs, hcs, hsz⟩ := HS6.q
  refine oper_store_row 26 _ _ rfl (w.heap.size + 3) 26 cs (y1).arr rfl rfl hcs (sizeG _) hsz (oneG _) ?_
  refine hK.out _ _ ?_ (fun hHeld => ?_)
  · exact Eo.set3 HS6 _
  clear hK K hcs hsz
  (try simp only [Act.put])
  refine wpAnyH_ready (rs := [4]) (by kernel_rfl) (by simp) ?_
  refine AllReadyH.cons (o := ⟨none, _, _, _, _, _⟩) rfl (fun K hK => ?_) AllReadyH.nil
  rw [if_pos (by rfl)]
  obtain ⟨cs, hcs, hsz⟩ := (Eo.set3 HS6 _).k
  refine oper_store_row 34 _ _ rfl (w.heap.size + 4) 34 cs (cm0).arr rfl rfl hcs (sizeC _) hsz (oneC _) ?_
  refine hK.out _ _ ?_ (fun hHeld => ?_)
  · exact Eo.set4 (Eo.set3 HS6 _) _
  clear hK K hcs hsz
  (try simp only [Act.put])
  refine wpAnyH_take (i := 5) (oi := ⟨some 8, _, _, _, _, _⟩) (v := ?_) rfl (by kernel_rfl) (by kernel_rfl) (by kernel_rfl) (fun _ _ _ h => h) (Or.inl ⟨by rfl, ?_⟩) (by assumption) ?_
  rotate_left
  · (intro u hu; (try dsimp only at hu); go_simp; (try with_reducible rfl))
  (try simp only [Act.put, List.setIfInBounds_toArray, List.set_cons_zero, List.set_cons_succ])
  refine wpAnyH_done (by kernel_rfl) ?_ _
  go_wp2
  exact bodyPost_ret (res_sg_cm_tmp rfl _ _ (w.heap.size + 3) (w.heap.size + 4) y1 cm0 rfl rfl (Eo.rows HS6 y1 cm0).1 (Eo.rows HS6 y1 cm0).2.1) rfl ⟨rfl, (Eo.rows HS6 y1 cm0).2.2⟩
set_option maxRecDepth 100000 in
set_option maxHeartbeats 4000000 in
theorem do7_any (hk : a.k = 7) : Calls Tryz.prog 7 #[.agg #[.string nm, .int .i64 dl, .slice A n c], .agg #[.int .i64 s.id, .string s.dn, .int .i64 s.st, .int .i64 s.ph, .int .i64 s.sp, .int .i64 s.tr, .bool s.out, .int .i64 s.at_, .int .i64 s.sk], .agg #[.int .i64 a.k, .int .i64 a.now, .int .i64 a.r.sg, .int .i64 a.r.sp, .bool a.r.un, .int .i64 a.r.tr, .bool a.r.good]] w fun e w' => e = .returned (.tuple #[.agg (doA nm dl ss s a).1.arr, .agg (doA nm dl ss s a).2.1.arr, .int .i64 (doA nm dl ss s a).2.2]) ∧ Below w.heap.size w w' := by
  have hX : doA nm dl ss s a = ((expireA nm dl ss s a.now).1, cm0, (expireA nm dl ss s a.now).2) := by
    unfold doA numA
    rw [if_neg (by omega), if_neg (by omega), if_pos (by omega)]
    rw [if_neg (by omega), if_pos (by omega)]
  have _hid := hid
  have _ht := ht
  have HE := Lib.hid (fun W (hW : Below w.heap.size w W) => expire_any nm dl A n c ss s W (hd.on hW) a.now)
  rw [hX]
  generalize expireA nm dl ss s a.now = Y at *
  obtain ⟨y1, y2⟩ := Y
  dsimp only at HE ⊢
  clear hX
  have q0 : (a.k == 0) = false := by simp [hk]
  have q1 : (a.k == 1) = false := by simp [hk]
  have q2 : (a.k == 2) = false := by simp [hk]
  have q3 : (a.k == 3) = false := by simp [hk]
  have q4 : (a.k == 4) = false := by simp [hk]
  have q5 : (a.k == 5) = false := by simp [hk]
  have q6 : (a.k == 6) = false := by simp [hk]
  have q7 : (a.k == 7) = true := by simp [hk]
  clear hk hd ht hid _hid _ht
  go_enter Tryz.func7, Tryz.ntmps7
  go_wp2_with (first
    | (go_at_call 21; (with_reducible refine (HE.out _ (b6 w _ _ _ _ _ _)).mono ?_); rintro e w1 ⟨rfl, hm⟩; have H1 := Lib.hid (eo6 (s := s) (a := a) rfl rfl hm); clear hm; obtain ⟨d0, d1, d2⟩ := H1.out.e.cd; obtain ⟨c0, c1, c2, c3, c4, c5, c6, c7, c8⟩ := H1.out.e.cs; obtain ⟨a0, a1, a2, a3, a4, a5, a6⟩ := H1.out.ac)
    | (obtain ⟨cs, hcs, hsz⟩ := (Box.slot H1.out.e.s rfl : Slot _ _ _ 9); refine wpList_store_row rfl 26 _ _ rfl (w.heap.size + 1) 26 cs (y1).arr rfl rfl hcs (sizeG _) hsz (oneG _) ?_))
  have H6 := Lib.hid (H1.out.setS y1)
  generalize w1.setRow (w.heap.size + 1) y1.arr = W6 at *
  have HS6 : (fun u => Eo w u nm dl A n c y1 a) W6.drew := H6.out.on (Below.drew (Below.refl _ _))
  have u0 : ∀ u, (fun u => Eo w u nm dl A n c y1 a) u → u.cell? ⟨w.heap.size + 1, 0, none⟩ = some (.int .i64 y1.id) := fun u H => H.e.s.cell 0
  have u1 : ∀ u, (fun u => Eo w u nm dl A n c y1 a) u → u.cell? ⟨w.heap.size + 1, 1, none⟩ = some (.string y1.dn) := fun u H => H.e.s.cell 1
  have u2 : ∀ u, (fun u => Eo w u nm dl A n c y1 a) u → u.cell? ⟨w.heap.size + 1, 2, none⟩ = some (.int .i64 y1.st) := fun u H => H.e.s.cell 2
  have u3 : ∀ u, (fun u => Eo w u nm dl A n c y1 a) u → u.cell? ⟨w.heap.size + 1, 3, none⟩ = some (.int .i64 y1.ph) := fun u H => H.e.s.cell 3
  have u4 : ∀ u, (fun u => Eo w u nm dl A n c y1 a) u → u.cell? ⟨w.heap.size + 1, 4, none⟩ = some (.int .i64 y1.sp) := fun u H => H.e.s.cell 4
  have u5 : ∀ u, (fun u => Eo w u nm dl A n c y1 a) u → u.cell? ⟨w.heap.size + 1, 5, none⟩ = some (.int .i64 y1.tr) := fun u H => H.e.s.cell 5
  have u6 : ∀ u, (fun u => Eo w u nm dl A n c y1 a) u → u.cell? ⟨w.heap.size + 1, 6, none⟩ = some (.bool y1.out) := fun u H => H.e.s.cell 6
  have u7 : ∀ u, (fun u => Eo w u nm dl A n c y1 a) u → u.cell? ⟨w.heap.size + 1, 7, none⟩ = some (.int .i64 y1.at_) := fun u H => H.e.s.cell 7
  have u8 : ∀ u, (fun u => Eo w u nm dl A n c y1 a) u → u.cell? ⟨w.heap.size + 1, 8, none⟩ = some (.int .i64 y1.sk) := fun u H => H.e.s.cell 8
  have k0 : ∀ u, (fun u => Eo w u nm dl A n c y1 a) u → u.cell? ⟨w.heap.size + 5, 0, none⟩ = some (.int .i64 0) := fun u H => H.c.cell 0
  have k1 : ∀ u, (fun u => Eo w u nm dl A n c y1 a) u → u.cell? ⟨w.heap.size + 5, 1, none⟩ = some (.int .i64 0) := fun u H => H.c.cell 1
  have k2 : ∀ u, (fun u => Eo w u nm dl A n c y1 a) u → u.cell? ⟨w.heap.size + 5, 2, none⟩ = some (.bool false) := fun u H => H.c.cell 2
  have k3 : ∀ u, (fun u => Eo w u nm dl A n c y1 a) u → u.cell? ⟨w.heap.size + 5, 3, none⟩ = some (.int .i64 0) := fun u H => H.c.cell 3
  have k4 : ∀ u, (fun u => Eo w u nm dl A n c y1 a) u → u.cell? ⟨w.heap.size + 5, 4, none⟩ = some (.string ⟨#[]⟩) := fun u H => H.c.cell 4
  have k5 : ∀ u, (fun u => Eo w u nm dl A n c y1 a) u → u.cell? ⟨w.heap.size + 5, 5, none⟩ = some (.string ⟨#[]⟩) := fun u H => H.c.cell 5
  refine wp_region_held_drew (S := fun u => Eo w u nm dl A n c y1 a) (by kernel_rfl) HS6 (fun hHeld => ?_)
  refine wpAnyH_take (i := 0) (oi := ⟨some 100, _, _, _, _, _⟩) (v := ?_) rfl (by kernel_rfl) (by kernel_rfl) (by kernel_rfl) (fun _ _ _ h => h) (Or.inl ⟨by rfl, ?_⟩) (by assumption) ?_
  rotate_left
  · (intro u hu; (try dsimp only at hu); go_simp; (try with_reducible rfl))
  (try simp only [Act.put, List.setIfInBounds_toArray, List.set_cons_zero, List.set_cons_succ])
  refine wpAnyH_take (i := 1) (oi := ⟨some 101, _, _, _, _, _⟩) (v := ?_) rfl (by kernel_rfl) (by kernel_rfl) (by kernel_rfl) (fun _ _ _ h => h) (Or.inl ⟨by rfl, ?_⟩) (by assumption) ?_
  rotate_left
  · (intro u hu; (try dsimp only at hu); go_simp; (try with_reducible rfl))
  (try simp only [Act.put, List.setIfInBounds_toArray, List.set_cons_zero, List.set_cons_succ])
  refine wpAnyH_take (i := 2) (oi := ⟨some 102, _, _, _, _, _⟩) (v := ?_) rfl (by kernel_rfl) (by kernel_rfl) (by kernel_rfl) (fun _ _ _ h => h) (Or.inl ⟨by rfl, ?_⟩) (by assumption) ?_
  rotate_left
  · (intro u hu; (try dsimp only at hu); go_simp; (try with_reducible rfl))
  (try simp only [Act.put, List.setIfInBounds_toArray, List.set_cons_zero, List.set_cons_succ])
  refine wpAnyH_ready (rs := [3]) (by kernel_rfl) (by simp) ?_
  refine AllReadyH.cons (o := ⟨none, _, _, _, _, _⟩) rfl (fun K hK => ?_) AllReadyH.nil
  rw [if_pos (by rfl)]
  obtain ⟨cs, hcs, hsz⟩ := HS6.q
  refine oper_store_row 26 _ _ rfl (w.heap.size + 3) 26 cs (y1).arr rfl rfl hcs (sizeG _) hsz (oneG _) ?_
  refine hK.out _ _ ?_ (fun hHeld => ?_)
  · exact Eo.set3 HS6 _
  clear hK K hcs hsz
  (try simp only [Act.put])
  refine wpAnyH_ready (rs := [4]) (by kernel_rfl) (by simp) ?_
  refine AllReadyH.cons (o := ⟨none, _, _, _, _, _⟩) rfl (fun K hK => ?_) AllReadyH.nil
  rw [if_pos (by rfl)]
  obtain ⟨cs, hcs, hsz⟩ := (Eo.set3 HS6 _).k
  refine oper_store_row 34 _ _ rfl (w.heap.size + 4) 34 cs (cm0).arr rfl rfl hcs (sizeC _) hsz (oneC _) ?_
  refine hK.out _ _ ?_ (fun hHeld => ?_)
  · exact Eo.set4 (Eo.set3 HS6 _) _
  clear hK K hcs hsz
  (try simp only [Act.put])
  refine wpAnyH_take (i := 5) (oi := ⟨some 8, _, _, _, _, _⟩) (v := ?_) rfl (by kernel_rfl) (by kernel_rfl) (by kernel_rfl) (fun _ _ _ h => h) (Or.inl ⟨by rfl, ?_⟩) (by assumption) ?_
  rotate_left
  · (intro u hu; (try dsimp only at hu); go_simp; (try with_reducible rfl))
  (try simp only [Act.put, List.setIfInBounds_toArray, List.set_cons_zero, List.set_cons_succ])
  refine wpAnyH_done (by kernel_rfl) ?_ _
  go_wp2
  exact bodyPost_ret (res_sg_cm_tmp rfl _ _ (w.heap.size + 3) (w.heap.size + 4) y1 cm0 rfl rfl (Eo.rows HS6 y1 cm0).1 (Eo.rows HS6 y1 cm0).2.1) rfl ⟨rfl, (Eo.rows HS6 y1 cm0).2.2⟩
set_option maxRecDepth 100000 in
set_option maxHeartbeats 4000000 in
theorem do8_any (hk : a.k = 8) : Calls Tryz.prog 7 #[.agg #[.string nm, .int .i64 dl, .slice A n c], .agg #[.int .i64 s.id, .string s.dn, .int .i64 s.st, .int .i64 s.ph, .int .i64 s.sp, .int .i64 s.tr, .bool s.out, .int .i64 s.at_, .int .i64 s.sk], .agg #[.int .i64 a.k, .int .i64 a.now, .int .i64 a.r.sg, .int .i64 a.r.sp, .bool a.r.un, .int .i64 a.r.tr, .bool a.r.good]] w fun e w' => e = .returned (.tuple #[.agg (doA nm dl ss s a).1.arr, .agg (doA nm dl ss s a).2.1.arr, .int .i64 (doA nm dl ss s a).2.2]) ∧ Below w.heap.size w w' := by
  have hX : doA nm dl ss s a = ((cancelA nm dl ss s a.now).1, cm0, (cancelA nm dl ss s a.now).2) := by
    unfold doA numA
    rw [if_neg (by omega), if_neg (by omega), if_pos (by omega)]
    rw [if_neg (by omega), if_neg (by omega), if_pos (by omega)]
  have _hid := hid
  have _ht := ht
  have HE := Lib.hid (fun W (hW : Below w.heap.size w W) => cancel_any nm dl A n c ss s W (hd.on hW) a.now)
  rw [hX]
  generalize cancelA nm dl ss s a.now = Y at *
  obtain ⟨y1, y2⟩ := Y
  dsimp only at HE ⊢
  clear hX
  have q0 : (a.k == 0) = false := by simp [hk]
  have q1 : (a.k == 1) = false := by simp [hk]
  have q2 : (a.k == 2) = false := by simp [hk]
  have q3 : (a.k == 3) = false := by simp [hk]
  have q4 : (a.k == 4) = false := by simp [hk]
  have q5 : (a.k == 5) = false := by simp [hk]
  have q6 : (a.k == 6) = false := by simp [hk]
  have q7 : (a.k == 7) = false := by simp [hk]
  have q8 : (a.k == 8) = true := by simp [hk]
  clear hk hd ht hid _hid _ht
  go_enter Tryz.func7, Tryz.ntmps7
  go_wp2_with (first
    | (go_at_call 22; (with_reducible refine (HE.out _ (b6 w _ _ _ _ _ _)).mono ?_); rintro e w1 ⟨rfl, hm⟩; have H1 := Lib.hid (eo6 (s := s) (a := a) rfl rfl hm); clear hm; obtain ⟨d0, d1, d2⟩ := H1.out.e.cd; obtain ⟨c0, c1, c2, c3, c4, c5, c6, c7, c8⟩ := H1.out.e.cs; obtain ⟨a0, a1, a2, a3, a4, a5, a6⟩ := H1.out.ac)
    | (obtain ⟨cs, hcs, hsz⟩ := (Box.slot H1.out.e.s rfl : Slot _ _ _ 9); refine wpList_store_row rfl 26 _ _ rfl (w.heap.size + 1) 26 cs (y1).arr rfl rfl hcs (sizeG _) hsz (oneG _) ?_))
  have H6 := Lib.hid (H1.out.setS y1)
  generalize w1.setRow (w.heap.size + 1) y1.arr = W6 at *
  have HS6 : (fun u => Eo w u nm dl A n c y1 a) W6.drew := H6.out.on (Below.drew (Below.refl _ _))
  have u0 : ∀ u, (fun u => Eo w u nm dl A n c y1 a) u → u.cell? ⟨w.heap.size + 1, 0, none⟩ = some (.int .i64 y1.id) := fun u H => H.e.s.cell 0
  have u1 : ∀ u, (fun u => Eo w u nm dl A n c y1 a) u → u.cell? ⟨w.heap.size + 1, 1, none⟩ = some (.string y1.dn) := fun u H => H.e.s.cell 1
  have u2 : ∀ u, (fun u => Eo w u nm dl A n c y1 a) u → u.cell? ⟨w.heap.size + 1, 2, none⟩ = some (.int .i64 y1.st) := fun u H => H.e.s.cell 2
  have u3 : ∀ u, (fun u => Eo w u nm dl A n c y1 a) u → u.cell? ⟨w.heap.size + 1, 3, none⟩ = some (.int .i64 y1.ph) := fun u H => H.e.s.cell 3
  have u4 : ∀ u, (fun u => Eo w u nm dl A n c y1 a) u → u.cell? ⟨w.heap.size + 1, 4, none⟩ = some (.int .i64 y1.sp) := fun u H => H.e.s.cell 4
  have u5 : ∀ u, (fun u => Eo w u nm dl A n c y1 a) u → u.cell? ⟨w.heap.size + 1, 5, none⟩ = some (.int .i64 y1.tr) := fun u H => H.e.s.cell 5
  have u6 : ∀ u, (fun u => Eo w u nm dl A n c y1 a) u → u.cell? ⟨w.heap.size + 1, 6, none⟩ = some (.bool y1.out) := fun u H => H.e.s.cell 6
  have u7 : ∀ u, (fun u => Eo w u nm dl A n c y1 a) u → u.cell? ⟨w.heap.size + 1, 7, none⟩ = some (.int .i64 y1.at_) := fun u H => H.e.s.cell 7
  have u8 : ∀ u, (fun u => Eo w u nm dl A n c y1 a) u → u.cell? ⟨w.heap.size + 1, 8, none⟩ = some (.int .i64 y1.sk) := fun u H => H.e.s.cell 8
  have k0 : ∀ u, (fun u => Eo w u nm dl A n c y1 a) u → u.cell? ⟨w.heap.size + 5, 0, none⟩ = some (.int .i64 0) := fun u H => H.c.cell 0
  have k1 : ∀ u, (fun u => Eo w u nm dl A n c y1 a) u → u.cell? ⟨w.heap.size + 5, 1, none⟩ = some (.int .i64 0) := fun u H => H.c.cell 1
  have k2 : ∀ u, (fun u => Eo w u nm dl A n c y1 a) u → u.cell? ⟨w.heap.size + 5, 2, none⟩ = some (.bool false) := fun u H => H.c.cell 2
  have k3 : ∀ u, (fun u => Eo w u nm dl A n c y1 a) u → u.cell? ⟨w.heap.size + 5, 3, none⟩ = some (.int .i64 0) := fun u H => H.c.cell 3
  have k4 : ∀ u, (fun u => Eo w u nm dl A n c y1 a) u → u.cell? ⟨w.heap.size + 5, 4, none⟩ = some (.string ⟨#[]⟩) := fun u H => H.c.cell 4
  have k5 : ∀ u, (fun u => Eo w u nm dl A n c y1 a) u → u.cell? ⟨w.heap.size + 5, 5, none⟩ = some (.string ⟨#[]⟩) := fun u H => H.c.cell 5
  refine wp_region_held_drew (S := fun u => Eo w u nm dl A n c y1 a) (by kernel_rfl) HS6 (fun hHeld => ?_)
  refine wpAnyH_take (i := 0) (oi := ⟨some 100, _, _, _, _, _⟩) (v := ?_) rfl (by kernel_rfl) (by kernel_rfl) (by kernel_rfl) (fun _ _ _ h => h) (Or.inl ⟨by rfl, ?_⟩) (by assumption) ?_
  rotate_left
  · (intro u hu; (try dsimp only at hu); go_simp; (try with_reducible rfl))
  (try simp only [Act.put, List.setIfInBounds_toArray, List.set_cons_zero, List.set_cons_succ])
  refine wpAnyH_take (i := 1) (oi := ⟨some 101, _, _, _, _, _⟩) (v := ?_) rfl (by kernel_rfl) (by kernel_rfl) (by kernel_rfl) (fun _ _ _ h => h) (Or.inl ⟨by rfl, ?_⟩) (by assumption) ?_
  rotate_left
  · (intro u hu; (try dsimp only at hu); go_simp; (try with_reducible rfl))
  (try simp only [Act.put, List.setIfInBounds_toArray, List.set_cons_zero, List.set_cons_succ])
  refine wpAnyH_take (i := 2) (oi := ⟨some 102, _, _, _, _, _⟩) (v := ?_) rfl (by kernel_rfl) (by kernel_rfl) (by kernel_rfl) (fun _ _ _ h => h) (Or.inl ⟨by rfl, ?_⟩) (by assumption) ?_
  rotate_left
  · (intro u hu; (try dsimp only at hu); go_simp; (try with_reducible rfl))
  (try simp only [Act.put, List.setIfInBounds_toArray, List.set_cons_zero, List.set_cons_succ])
  refine wpAnyH_ready (rs := [3]) (by kernel_rfl) (by simp) ?_
  refine AllReadyH.cons (o := ⟨none, _, _, _, _, _⟩) rfl (fun K hK => ?_) AllReadyH.nil
  rw [if_pos (by rfl)]
  obtain ⟨cs, hcs, hsz⟩ := HS6.q
  refine oper_store_row 26 _ _ rfl (w.heap.size + 3) 26 cs (y1).arr rfl rfl hcs (sizeG _) hsz (oneG _) ?_
  refine hK.out _ _ ?_ (fun hHeld => ?_)
  · exact Eo.set3 HS6 _
  clear hK K hcs hsz
  (try simp only [Act.put])
  refine wpAnyH_ready (rs := [4]) (by kernel_rfl) (by simp) ?_
  refine AllReadyH.cons (o := ⟨none, _, _, _, _, _⟩) rfl (fun K hK => ?_) AllReadyH.nil
  rw [if_pos (by rfl)]
  obtain ⟨cs, hcs, hsz⟩ := (Eo.set3 HS6 _).k
  refine oper_store_row 34 _ _ rfl (w.heap.size + 4) 34 cs (cm0).arr rfl rfl hcs (sizeC _) hsz (oneC _) ?_
  refine hK.out _ _ ?_ (fun hHeld => ?_)
  · exact Eo.set4 (Eo.set3 HS6 _) _
  clear hK K hcs hsz
  (try simp only [Act.put])
  refine wpAnyH_take (i := 5) (oi := ⟨some 8, _, _, _, _, _⟩) (v := ?_) rfl (by kernel_rfl) (by kernel_rfl) (by kernel_rfl) (fun _ _ _ h => h) (Or.inl ⟨by rfl, ?_⟩) (by assumption) ?_
  rotate_left
  · (intro u hu; (try dsimp only at hu); go_simp; (try with_reducible rfl))
  (try simp only [Act.put, List.setIfInBounds_toArray, List.set_cons_zero, List.set_cons_succ])
  refine wpAnyH_done (by kernel_rfl) ?_ _
  go_wp2
  exact bodyPost_ret (res_sg_cm_tmp rfl _ _ (w.heap.size + 3) (w.heap.size + 4) y1 cm0 rfl rfl (Eo.rows HS6 y1 cm0).1 (Eo.rows HS6 y1 cm0).2.1) rfl ⟨rfl, (Eo.rows HS6 y1 cm0).2.2⟩
set_option maxRecDepth 100000 in
set_option maxHeartbeats 4000000 in
theorem do9_any (hk : a.k = 9) : Calls Tryz.prog 7 #[.agg #[.string nm, .int .i64 dl, .slice A n c], .agg #[.int .i64 s.id, .string s.dn, .int .i64 s.st, .int .i64 s.ph, .int .i64 s.sp, .int .i64 s.tr, .bool s.out, .int .i64 s.at_, .int .i64 s.sk], .agg #[.int .i64 a.k, .int .i64 a.now, .int .i64 a.r.sg, .int .i64 a.r.sp, .bool a.r.un, .int .i64 a.r.tr, .bool a.r.good]] w fun e w' => e = .returned (.tuple #[.agg (doA nm dl ss s a).1.arr, .agg (doA nm dl ss s a).2.1.arr, .int .i64 (doA nm dl ss s a).2.2]) ∧ Below w.heap.size w w' := by
  have hX : doA nm dl ss s a = ((retryA nm dl ss s a.now).1, cm0, (retryA nm dl ss s a.now).2) := by
    unfold doA numA
    rw [if_neg (by omega), if_neg (by omega), if_pos (by omega)]
    rw [if_neg (by omega), if_neg (by omega), if_neg (by omega), if_pos (by omega)]
  have _hid := hid
  have _ht := ht
  have HE := Lib.hid (fun W (hW : Below w.heap.size w W) => retry_any nm dl A n c ss s W (hd.on hW) a.now)
  rw [hX]
  generalize retryA nm dl ss s a.now = Y at *
  obtain ⟨y1, y2⟩ := Y
  dsimp only at HE ⊢
  clear hX
  have q0 : (a.k == 0) = false := by simp [hk]
  have q1 : (a.k == 1) = false := by simp [hk]
  have q2 : (a.k == 2) = false := by simp [hk]
  have q3 : (a.k == 3) = false := by simp [hk]
  have q4 : (a.k == 4) = false := by simp [hk]
  have q5 : (a.k == 5) = false := by simp [hk]
  have q6 : (a.k == 6) = false := by simp [hk]
  have q7 : (a.k == 7) = false := by simp [hk]
  have q8 : (a.k == 8) = false := by simp [hk]
  have q9 : (a.k == 9) = true := by simp [hk]
  clear hk hd ht hid _hid _ht
  go_enter Tryz.func7, Tryz.ntmps7
  go_wp2_with (first
    | (go_at_call 23; (with_reducible refine (HE.out _ (b6 w _ _ _ _ _ _)).mono ?_); rintro e w1 ⟨rfl, hm⟩; have H1 := Lib.hid (eo6 (s := s) (a := a) rfl rfl hm); clear hm; obtain ⟨d0, d1, d2⟩ := H1.out.e.cd; obtain ⟨c0, c1, c2, c3, c4, c5, c6, c7, c8⟩ := H1.out.e.cs; obtain ⟨a0, a1, a2, a3, a4, a5, a6⟩ := H1.out.ac)
    | (obtain ⟨cs, hcs, hsz⟩ := (Box.slot H1.out.e.s rfl : Slot _ _ _ 9); refine wpList_store_row rfl 26 _ _ rfl (w.heap.size + 1) 26 cs (y1).arr rfl rfl hcs (sizeG _) hsz (oneG _) ?_))
  have H6 := Lib.hid (H1.out.setS y1)
  generalize w1.setRow (w.heap.size + 1) y1.arr = W6 at *
  have HS6 : (fun u => Eo w u nm dl A n c y1 a) W6.drew := H6.out.on (Below.drew (Below.refl _ _))
  have u0 : ∀ u, (fun u => Eo w u nm dl A n c y1 a) u → u.cell? ⟨w.heap.size + 1, 0, none⟩ = some (.int .i64 y1.id) := fun u H => H.e.s.cell 0
  have u1 : ∀ u, (fun u => Eo w u nm dl A n c y1 a) u → u.cell? ⟨w.heap.size + 1, 1, none⟩ = some (.string y1.dn) := fun u H => H.e.s.cell 1
  have u2 : ∀ u, (fun u => Eo w u nm dl A n c y1 a) u → u.cell? ⟨w.heap.size + 1, 2, none⟩ = some (.int .i64 y1.st) := fun u H => H.e.s.cell 2
  have u3 : ∀ u, (fun u => Eo w u nm dl A n c y1 a) u → u.cell? ⟨w.heap.size + 1, 3, none⟩ = some (.int .i64 y1.ph) := fun u H => H.e.s.cell 3
  have u4 : ∀ u, (fun u => Eo w u nm dl A n c y1 a) u → u.cell? ⟨w.heap.size + 1, 4, none⟩ = some (.int .i64 y1.sp) := fun u H => H.e.s.cell 4
  have u5 : ∀ u, (fun u => Eo w u nm dl A n c y1 a) u → u.cell? ⟨w.heap.size + 1, 5, none⟩ = some (.int .i64 y1.tr) := fun u H => H.e.s.cell 5
  have u6 : ∀ u, (fun u => Eo w u nm dl A n c y1 a) u → u.cell? ⟨w.heap.size + 1, 6, none⟩ = some (.bool y1.out) := fun u H => H.e.s.cell 6
  have u7 : ∀ u, (fun u => Eo w u nm dl A n c y1 a) u → u.cell? ⟨w.heap.size + 1, 7, none⟩ = some (.int .i64 y1.at_) := fun u H => H.e.s.cell 7
  have u8 : ∀ u, (fun u => Eo w u nm dl A n c y1 a) u → u.cell? ⟨w.heap.size + 1, 8, none⟩ = some (.int .i64 y1.sk) := fun u H => H.e.s.cell 8
  have k0 : ∀ u, (fun u => Eo w u nm dl A n c y1 a) u → u.cell? ⟨w.heap.size + 5, 0, none⟩ = some (.int .i64 0) := fun u H => H.c.cell 0
  have k1 : ∀ u, (fun u => Eo w u nm dl A n c y1 a) u → u.cell? ⟨w.heap.size + 5, 1, none⟩ = some (.int .i64 0) := fun u H => H.c.cell 1
  have k2 : ∀ u, (fun u => Eo w u nm dl A n c y1 a) u → u.cell? ⟨w.heap.size + 5, 2, none⟩ = some (.bool false) := fun u H => H.c.cell 2
  have k3 : ∀ u, (fun u => Eo w u nm dl A n c y1 a) u → u.cell? ⟨w.heap.size + 5, 3, none⟩ = some (.int .i64 0) := fun u H => H.c.cell 3
  have k4 : ∀ u, (fun u => Eo w u nm dl A n c y1 a) u → u.cell? ⟨w.heap.size + 5, 4, none⟩ = some (.string ⟨#[]⟩) := fun u H => H.c.cell 4
  have k5 : ∀ u, (fun u => Eo w u nm dl A n c y1 a) u → u.cell? ⟨w.heap.size + 5, 5, none⟩ = some (.string ⟨#[]⟩) := fun u H => H.c.cell 5
  refine wp_region_held_drew (S := fun u => Eo w u nm dl A n c y1 a) (by kernel_rfl) HS6 (fun hHeld => ?_)
  refine wpAnyH_take (i := 0) (oi := ⟨some 100, _, _, _, _, _⟩) (v := ?_) rfl (by kernel_rfl) (by kernel_rfl) (by kernel_rfl) (fun _ _ _ h => h) (Or.inl ⟨by rfl, ?_⟩) (by assumption) ?_
  rotate_left
  · (intro u hu; (try dsimp only at hu); go_simp; (try with_reducible rfl))
  (try simp only [Act.put, List.setIfInBounds_toArray, List.set_cons_zero, List.set_cons_succ])
  refine wpAnyH_take (i := 1) (oi := ⟨some 101, _, _, _, _, _⟩) (v := ?_) rfl (by kernel_rfl) (by kernel_rfl) (by kernel_rfl) (fun _ _ _ h => h) (Or.inl ⟨by rfl, ?_⟩) (by assumption) ?_
  rotate_left
  · (intro u hu; (try dsimp only at hu); go_simp; (try with_reducible rfl))
  (try simp only [Act.put, List.setIfInBounds_toArray, List.set_cons_zero, List.set_cons_succ])
  refine wpAnyH_take (i := 2) (oi := ⟨some 102, _, _, _, _, _⟩) (v := ?_) rfl (by kernel_rfl) (by kernel_rfl) (by kernel_rfl) (fun _ _ _ h => h) (Or.inl ⟨by rfl, ?_⟩) (by assumption) ?_
  rotate_left
  · (intro u hu; (try dsimp only at hu); go_simp; (try with_reducible rfl))
  (try simp only [Act.put, List.setIfInBounds_toArray, List.set_cons_zero, List.set_cons_succ])
  refine wpAnyH_ready (rs := [3]) (by kernel_rfl) (by simp) ?_
  refine AllReadyH.cons (o := ⟨none, _, _, _, _, _⟩) rfl (fun K hK => ?_) AllReadyH.nil
  rw [if_pos (by rfl)]
  obtain ⟨cs, hcs, hsz⟩ := HS6.q
  refine oper_store_row 26 _ _ rfl (w.heap.size + 3) 26 cs (y1).arr rfl rfl hcs (sizeG _) hsz (oneG _) ?_
  refine hK.out _ _ ?_ (fun hHeld => ?_)
  · exact Eo.set3 HS6 _
  clear hK K hcs hsz
  (try simp only [Act.put])
  refine wpAnyH_ready (rs := [4]) (by kernel_rfl) (by simp) ?_
  refine AllReadyH.cons (o := ⟨none, _, _, _, _, _⟩) rfl (fun K hK => ?_) AllReadyH.nil
  rw [if_pos (by rfl)]
  obtain ⟨cs, hcs, hsz⟩ := (Eo.set3 HS6 _).k
  refine oper_store_row 34 _ _ rfl (w.heap.size + 4) 34 cs (cm0).arr rfl rfl hcs (sizeC _) hsz (oneC _) ?_
  refine hK.out _ _ ?_ (fun hHeld => ?_)
  · exact Eo.set4 (Eo.set3 HS6 _) _
  clear hK K hcs hsz
  (try simp only [Act.put])
  refine wpAnyH_take (i := 5) (oi := ⟨some 8, _, _, _, _, _⟩) (v := ?_) rfl (by kernel_rfl) (by kernel_rfl) (by kernel_rfl) (fun _ _ _ h => h) (Or.inl ⟨by rfl, ?_⟩) (by assumption) ?_
  rotate_left
  · (intro u hu; (try dsimp only at hu); go_simp; (try with_reducible rfl))
  (try simp only [Act.put, List.setIfInBounds_toArray, List.set_cons_zero, List.set_cons_succ])
  refine wpAnyH_done (by kernel_rfl) ?_ _
  go_wp2
  exact bodyPost_ret (res_sg_cm_tmp rfl _ _ (w.heap.size + 3) (w.heap.size + 4) y1 cm0 rfl rfl (Eo.rows HS6 y1 cm0).1 (Eo.rows HS6 y1 cm0).2.1) rfl ⟨rfl, (Eo.rows HS6 y1 cm0).2.2⟩
set_option maxRecDepth 100000 in
set_option maxHeartbeats 4000000 in
theorem do10_any (hk : a.k = 10) : Calls Tryz.prog 7 #[.agg #[.string nm, .int .i64 dl, .slice A n c], .agg #[.int .i64 s.id, .string s.dn, .int .i64 s.st, .int .i64 s.ph, .int .i64 s.sp, .int .i64 s.tr, .bool s.out, .int .i64 s.at_, .int .i64 s.sk], .agg #[.int .i64 a.k, .int .i64 a.now, .int .i64 a.r.sg, .int .i64 a.r.sp, .bool a.r.un, .int .i64 a.r.tr, .bool a.r.good]] w fun e w' => e = .returned (.tuple #[.agg (doA nm dl ss s a).1.arr, .agg (doA nm dl ss s a).2.1.arr, .int .i64 (doA nm dl ss s a).2.2]) ∧ Below w.heap.size w w' := by
  have hX : doA nm dl ss s a = ((skipA nm dl ss s a.now).1, cm0, (skipA nm dl ss s a.now).2) := by
    unfold doA numA
    rw [if_neg (by omega), if_neg (by omega), if_pos (by omega)]
    rw [if_neg (by omega), if_neg (by omega), if_neg (by omega), if_neg (by omega), if_pos (by omega)]
  have _hid := hid
  have _ht := ht
  have HE := Lib.hid (fun W (hW : Below w.heap.size w W) => skip_any nm dl A n c ss s W (hd.on hW) a.now)
  rw [hX]
  generalize skipA nm dl ss s a.now = Y at *
  obtain ⟨y1, y2⟩ := Y
  dsimp only at HE ⊢
  clear hX
  have q0 : (a.k == 0) = false := by simp [hk]
  have q1 : (a.k == 1) = false := by simp [hk]
  have q2 : (a.k == 2) = false := by simp [hk]
  have q3 : (a.k == 3) = false := by simp [hk]
  have q4 : (a.k == 4) = false := by simp [hk]
  have q5 : (a.k == 5) = false := by simp [hk]
  have q6 : (a.k == 6) = false := by simp [hk]
  have q7 : (a.k == 7) = false := by simp [hk]
  have q8 : (a.k == 8) = false := by simp [hk]
  have q9 : (a.k == 9) = false := by simp [hk]
  have q10 : (a.k == 10) = true := by simp [hk]
  clear hk hd ht hid _hid _ht
  go_enter Tryz.func7, Tryz.ntmps7
  go_wp2_with (first
    | (go_at_call 24; (with_reducible refine (HE.out _ (b6 w _ _ _ _ _ _)).mono ?_); rintro e w1 ⟨rfl, hm⟩; have H1 := Lib.hid (eo6 (s := s) (a := a) rfl rfl hm); clear hm; obtain ⟨d0, d1, d2⟩ := H1.out.e.cd; obtain ⟨c0, c1, c2, c3, c4, c5, c6, c7, c8⟩ := H1.out.e.cs; obtain ⟨a0, a1, a2, a3, a4, a5, a6⟩ := H1.out.ac)
    | (obtain ⟨cs, hcs, hsz⟩ := (Box.slot H1.out.e.s rfl : Slot _ _ _ 9); refine wpList_store_row rfl 26 _ _ rfl (w.heap.size + 1) 26 cs (y1).arr rfl rfl hcs (sizeG _) hsz (oneG _) ?_))
  have H6 := Lib.hid (H1.out.setS y1)
  generalize w1.setRow (w.heap.size + 1) y1.arr = W6 at *
  have HS6 : (fun u => Eo w u nm dl A n c y1 a) W6.drew := H6.out.on (Below.drew (Below.refl _ _))
  have u0 : ∀ u, (fun u => Eo w u nm dl A n c y1 a) u → u.cell? ⟨w.heap.size + 1, 0, none⟩ = some (.int .i64 y1.id) := fun u H => H.e.s.cell 0
  have u1 : ∀ u, (fun u => Eo w u nm dl A n c y1 a) u → u.cell? ⟨w.heap.size + 1, 1, none⟩ = some (.string y1.dn) := fun u H => H.e.s.cell 1
  have u2 : ∀ u, (fun u => Eo w u nm dl A n c y1 a) u → u.cell? ⟨w.heap.size + 1, 2, none⟩ = some (.int .i64 y1.st) := fun u H => H.e.s.cell 2
  have u3 : ∀ u, (fun u => Eo w u nm dl A n c y1 a) u → u.cell? ⟨w.heap.size + 1, 3, none⟩ = some (.int .i64 y1.ph) := fun u H => H.e.s.cell 3
  have u4 : ∀ u, (fun u => Eo w u nm dl A n c y1 a) u → u.cell? ⟨w.heap.size + 1, 4, none⟩ = some (.int .i64 y1.sp) := fun u H => H.e.s.cell 4
  have u5 : ∀ u, (fun u => Eo w u nm dl A n c y1 a) u → u.cell? ⟨w.heap.size + 1, 5, none⟩ = some (.int .i64 y1.tr) := fun u H => H.e.s.cell 5
  have u6 : ∀ u, (fun u => Eo w u nm dl A n c y1 a) u → u.cell? ⟨w.heap.size + 1, 6, none⟩ = some (.bool y1.out) := fun u H => H.e.s.cell 6
  have u7 : ∀ u, (fun u => Eo w u nm dl A n c y1 a) u → u.cell? ⟨w.heap.size + 1, 7, none⟩ = some (.int .i64 y1.at_) := fun u H => H.e.s.cell 7
  have u8 : ∀ u, (fun u => Eo w u nm dl A n c y1 a) u → u.cell? ⟨w.heap.size + 1, 8, none⟩ = some (.int .i64 y1.sk) := fun u H => H.e.s.cell 8
  have k0 : ∀ u, (fun u => Eo w u nm dl A n c y1 a) u → u.cell? ⟨w.heap.size + 5, 0, none⟩ = some (.int .i64 0) := fun u H => H.c.cell 0
  have k1 : ∀ u, (fun u => Eo w u nm dl A n c y1 a) u → u.cell? ⟨w.heap.size + 5, 1, none⟩ = some (.int .i64 0) := fun u H => H.c.cell 1
  have k2 : ∀ u, (fun u => Eo w u nm dl A n c y1 a) u → u.cell? ⟨w.heap.size + 5, 2, none⟩ = some (.bool false) := fun u H => H.c.cell 2
  have k3 : ∀ u, (fun u => Eo w u nm dl A n c y1 a) u → u.cell? ⟨w.heap.size + 5, 3, none⟩ = some (.int .i64 0) := fun u H => H.c.cell 3
  have k4 : ∀ u, (fun u => Eo w u nm dl A n c y1 a) u → u.cell? ⟨w.heap.size + 5, 4, none⟩ = some (.string ⟨#[]⟩) := fun u H => H.c.cell 4
  have k5 : ∀ u, (fun u => Eo w u nm dl A n c y1 a) u → u.cell? ⟨w.heap.size + 5, 5, none⟩ = some (.string ⟨#[]⟩) := fun u H => H.c.cell 5
  refine wp_region_held_drew (S := fun u => Eo w u nm dl A n c y1 a) (by kernel_rfl) HS6 (fun hHeld => ?_)
  refine wpAnyH_take (i := 0) (oi := ⟨some 100, _, _, _, _, _⟩) (v := ?_) rfl (by kernel_rfl) (by kernel_rfl) (by kernel_rfl) (fun _ _ _ h => h) (Or.inl ⟨by rfl, ?_⟩) (by assumption) ?_
  rotate_left
  · (intro u hu; (try dsimp only at hu); go_simp; (try with_reducible rfl))
  (try simp only [Act.put, List.setIfInBounds_toArray, List.set_cons_zero, List.set_cons_succ])
  refine wpAnyH_take (i := 1) (oi := ⟨some 101, _, _, _, _, _⟩) (v := ?_) rfl (by kernel_rfl) (by kernel_rfl) (by kernel_rfl) (fun _ _ _ h => h) (Or.inl ⟨by rfl, ?_⟩) (by assumption) ?_
  rotate_left
  · (intro u hu; (try dsimp only at hu); go_simp; (try with_reducible rfl))
  (try simp only [Act.put, List.setIfInBounds_toArray, List.set_cons_zero, List.set_cons_succ])
  refine wpAnyH_take (i := 2) (oi := ⟨some 102, _, _, _, _, _⟩) (v := ?_) rfl (by kernel_rfl) (by kernel_rfl) (by kernel_rfl) (fun _ _ _ h => h) (Or.inl ⟨by rfl, ?_⟩) (by assumption) ?_
  rotate_left
  · (intro u hu; (try dsimp only at hu); go_simp; (try with_reducible rfl))
  (try simp only [Act.put, List.setIfInBounds_toArray, List.set_cons_zero, List.set_cons_succ])
  refine wpAnyH_ready (rs := [3]) (by kernel_rfl) (by simp) ?_
  refine AllReadyH.cons (o := ⟨none, _, _, _, _, _⟩) rfl (fun K hK => ?_) AllReadyH.nil
  rw [if_pos (by rfl)]
  obtain ⟨cs, hcs, hsz⟩ := HS6.q
  refine oper_store_row 26 _ _ rfl (w.heap.size + 3) 26 cs (y1).arr rfl rfl hcs (sizeG _) hsz (oneG _) ?_
  refine hK.out _ _ ?_ (fun hHeld => ?_)
  · exact Eo.set3 HS6 _
  clear hK K hcs hsz
  (try simp only [Act.put])
  refine wpAnyH_ready (rs := [4]) (by kernel_rfl) (by simp) ?_
  refine AllReadyH.cons (o := ⟨none, _, _, _, _, _⟩) rfl (fun K hK => ?_) AllReadyH.nil
  rw [if_pos (by rfl)]
  obtain ⟨cs, hcs, hsz⟩ := (Eo.set3 HS6 _).k
  refine oper_store_row 34 _ _ rfl (w.heap.size + 4) 34 cs (cm0).arr rfl rfl hcs (sizeC _) hsz (oneC _) ?_
  refine hK.out _ _ ?_ (fun hHeld => ?_)
  · exact Eo.set4 (Eo.set3 HS6 _) _
  clear hK K hcs hsz
  (try simp only [Act.put])
  refine wpAnyH_take (i := 5) (oi := ⟨some 8, _, _, _, _, _⟩) (v := ?_) rfl (by kernel_rfl) (by kernel_rfl) (by kernel_rfl) (fun _ _ _ h => h) (Or.inl ⟨by rfl, ?_⟩) (by assumption) ?_
  rotate_left
  · (intro u hu; (try dsimp only at hu); go_simp; (try with_reducible rfl))
  (try simp only [Act.put, List.setIfInBounds_toArray, List.set_cons_zero, List.set_cons_succ])
  refine wpAnyH_done (by kernel_rfl) ?_ _
  go_wp2
  exact bodyPost_ret (res_sg_cm_tmp rfl _ _ (w.heap.size + 3) (w.heap.size + 4) y1 cm0 rfl rfl (Eo.rows HS6 y1 cm0).1 (Eo.rows HS6 y1 cm0).2.1) rfl ⟨rfl, (Eo.rows HS6 y1 cm0).2.2⟩
set_option maxRecDepth 100000 in
set_option maxHeartbeats 4000000 in
theorem do11_any (hk : a.k = 11) : Calls Tryz.prog 7 #[.agg #[.string nm, .int .i64 dl, .slice A n c], .agg #[.int .i64 s.id, .string s.dn, .int .i64 s.st, .int .i64 s.ph, .int .i64 s.sp, .int .i64 s.tr, .bool s.out, .int .i64 s.at_, .int .i64 s.sk], .agg #[.int .i64 a.k, .int .i64 a.now, .int .i64 a.r.sg, .int .i64 a.r.sp, .bool a.r.un, .int .i64 a.r.tr, .bool a.r.good]] w fun e w' => e = .returned (.tuple #[.agg (doA nm dl ss s a).1.arr, .agg (doA nm dl ss s a).2.1.arr, .int .i64 (doA nm dl ss s a).2.2]) ∧ Below w.heap.size w w' := by
  have hX : doA nm dl ss s a = ((abandonA nm dl ss s a.now).1, cm0, (abandonA nm dl ss s a.now).2) := by
    unfold doA numA
    rw [if_neg (by omega), if_neg (by omega), if_pos (by omega)]
    rw [if_neg (by omega), if_neg (by omega), if_neg (by omega), if_neg (by omega), if_neg (by omega), if_pos (by omega)]
  have _hid := hid
  have _ht := ht
  have HE := Lib.hid (fun W (hW : Below w.heap.size w W) => abandon_any nm dl A n c ss s W (hd.on hW) a.now)
  rw [hX]
  generalize abandonA nm dl ss s a.now = Y at *
  obtain ⟨y1, y2⟩ := Y
  dsimp only at HE ⊢
  clear hX
  have q0 : (a.k == 0) = false := by simp [hk]
  have q1 : (a.k == 1) = false := by simp [hk]
  have q2 : (a.k == 2) = false := by simp [hk]
  have q3 : (a.k == 3) = false := by simp [hk]
  have q4 : (a.k == 4) = false := by simp [hk]
  have q5 : (a.k == 5) = false := by simp [hk]
  have q6 : (a.k == 6) = false := by simp [hk]
  have q7 : (a.k == 7) = false := by simp [hk]
  have q8 : (a.k == 8) = false := by simp [hk]
  have q9 : (a.k == 9) = false := by simp [hk]
  have q10 : (a.k == 10) = false := by simp [hk]
  have q11 : (a.k == 11) = true := by simp [hk]
  clear hk hd ht hid _hid _ht
  go_enter Tryz.func7, Tryz.ntmps7
  go_wp2_with (first
    | (go_at_call 25; (with_reducible refine (HE.out _ (b6 w _ _ _ _ _ _)).mono ?_); rintro e w1 ⟨rfl, hm⟩; have H1 := Lib.hid (eo6 (s := s) (a := a) rfl rfl hm); clear hm; obtain ⟨d0, d1, d2⟩ := H1.out.e.cd; obtain ⟨c0, c1, c2, c3, c4, c5, c6, c7, c8⟩ := H1.out.e.cs; obtain ⟨a0, a1, a2, a3, a4, a5, a6⟩ := H1.out.ac)
    | (obtain ⟨cs, hcs, hsz⟩ := (Box.slot H1.out.e.s rfl : Slot _ _ _ 9); refine wpList_store_row rfl 26 _ _ rfl (w.heap.size + 1) 26 cs (y1).arr rfl rfl hcs (sizeG _) hsz (oneG _) ?_))
  have H6 := Lib.hid (H1.out.setS y1)
  generalize w1.setRow (w.heap.size + 1) y1.arr = W6 at *
  have HS6 : (fun u => Eo w u nm dl A n c y1 a) W6.drew := H6.out.on (Below.drew (Below.refl _ _))
  have u0 : ∀ u, (fun u => Eo w u nm dl A n c y1 a) u → u.cell? ⟨w.heap.size + 1, 0, none⟩ = some (.int .i64 y1.id) := fun u H => H.e.s.cell 0
  have u1 : ∀ u, (fun u => Eo w u nm dl A n c y1 a) u → u.cell? ⟨w.heap.size + 1, 1, none⟩ = some (.string y1.dn) := fun u H => H.e.s.cell 1
  have u2 : ∀ u, (fun u => Eo w u nm dl A n c y1 a) u → u.cell? ⟨w.heap.size + 1, 2, none⟩ = some (.int .i64 y1.st) := fun u H => H.e.s.cell 2
  have u3 : ∀ u, (fun u => Eo w u nm dl A n c y1 a) u → u.cell? ⟨w.heap.size + 1, 3, none⟩ = some (.int .i64 y1.ph) := fun u H => H.e.s.cell 3
  have u4 : ∀ u, (fun u => Eo w u nm dl A n c y1 a) u → u.cell? ⟨w.heap.size + 1, 4, none⟩ = some (.int .i64 y1.sp) := fun u H => H.e.s.cell 4
  have u5 : ∀ u, (fun u => Eo w u nm dl A n c y1 a) u → u.cell? ⟨w.heap.size + 1, 5, none⟩ = some (.int .i64 y1.tr) := fun u H => H.e.s.cell 5
  have u6 : ∀ u, (fun u => Eo w u nm dl A n c y1 a) u → u.cell? ⟨w.heap.size + 1, 6, none⟩ = some (.bool y1.out) := fun u H => H.e.s.cell 6
  have u7 : ∀ u, (fun u => Eo w u nm dl A n c y1 a) u → u.cell? ⟨w.heap.size + 1, 7, none⟩ = some (.int .i64 y1.at_) := fun u H => H.e.s.cell 7
  have u8 : ∀ u, (fun u => Eo w u nm dl A n c y1 a) u → u.cell? ⟨w.heap.size + 1, 8, none⟩ = some (.int .i64 y1.sk) := fun u H => H.e.s.cell 8
  have k0 : ∀ u, (fun u => Eo w u nm dl A n c y1 a) u → u.cell? ⟨w.heap.size + 5, 0, none⟩ = some (.int .i64 0) := fun u H => H.c.cell 0
  have k1 : ∀ u, (fun u => Eo w u nm dl A n c y1 a) u → u.cell? ⟨w.heap.size + 5, 1, none⟩ = some (.int .i64 0) := fun u H => H.c.cell 1
  have k2 : ∀ u, (fun u => Eo w u nm dl A n c y1 a) u → u.cell? ⟨w.heap.size + 5, 2, none⟩ = some (.bool false) := fun u H => H.c.cell 2
  have k3 : ∀ u, (fun u => Eo w u nm dl A n c y1 a) u → u.cell? ⟨w.heap.size + 5, 3, none⟩ = some (.int .i64 0) := fun u H => H.c.cell 3
  have k4 : ∀ u, (fun u => Eo w u nm dl A n c y1 a) u → u.cell? ⟨w.heap.size + 5, 4, none⟩ = some (.string ⟨#[]⟩) := fun u H => H.c.cell 4
  have k5 : ∀ u, (fun u => Eo w u nm dl A n c y1 a) u → u.cell? ⟨w.heap.size + 5, 5, none⟩ = some (.string ⟨#[]⟩) := fun u H => H.c.cell 5
  refine wp_region_held_drew (S := fun u => Eo w u nm dl A n c y1 a) (by kernel_rfl) HS6 (fun hHeld => ?_)
  refine wpAnyH_take (i := 0) (oi := ⟨some 100, _, _, _, _, _⟩) (v := ?_) rfl (by kernel_rfl) (by kernel_rfl) (by kernel_rfl) (fun _ _ _ h => h) (Or.inl ⟨by rfl, ?_⟩) (by assumption) ?_
  rotate_left
  · (intro u hu; (try dsimp only at hu); go_simp; (try with_reducible rfl))
  (try simp only [Act.put, List.setIfInBounds_toArray, List.set_cons_zero, List.set_cons_succ])
  refine wpAnyH_take (i := 1) (oi := ⟨some 101, _, _, _, _, _⟩) (v := ?_) rfl (by kernel_rfl) (by kernel_rfl) (by kernel_rfl) (fun _ _ _ h => h) (Or.inl ⟨by rfl, ?_⟩) (by assumption) ?_
  rotate_left
  · (intro u hu; (try dsimp only at hu); go_simp; (try with_reducible rfl))
  (try simp only [Act.put, List.setIfInBounds_toArray, List.set_cons_zero, List.set_cons_succ])
  refine wpAnyH_take (i := 2) (oi := ⟨some 102, _, _, _, _, _⟩) (v := ?_) rfl (by kernel_rfl) (by kernel_rfl) (by kernel_rfl) (fun _ _ _ h => h) (Or.inl ⟨by rfl, ?_⟩) (by assumption) ?_
  rotate_left
  · (intro u hu; (try dsimp only at hu); go_simp; (try with_reducible rfl))
  (try simp only [Act.put, List.setIfInBounds_toArray, List.set_cons_zero, List.set_cons_succ])
  refine wpAnyH_ready (rs := [3]) (by kernel_rfl) (by simp) ?_
  refine AllReadyH.cons (o := ⟨none, _, _, _, _, _⟩) rfl (fun K hK => ?_) AllReadyH.nil
  rw [if_pos (by rfl)]
  obtain ⟨cs, hcs, hsz⟩ := HS6.q
  refine oper_store_row 26 _ _ rfl (w.heap.size + 3) 26 cs (y1).arr rfl rfl hcs (sizeG _) hsz (oneG _) ?_
  refine hK.out _ _ ?_ (fun hHeld => ?_)
  · exact Eo.set3 HS6 _
  clear hK K hcs hsz
  (try simp only [Act.put])
  refine wpAnyH_ready (rs := [4]) (by kernel_rfl) (by simp) ?_
  refine AllReadyH.cons (o := ⟨none, _, _, _, _, _⟩) rfl (fun K hK => ?_) AllReadyH.nil
  rw [if_pos (by rfl)]
  obtain ⟨cs, hcs, hsz⟩ := (Eo.set3 HS6 _).k
  refine oper_store_row 34 _ _ rfl (w.heap.size + 4) 34 cs (cm0).arr rfl rfl hcs (sizeC _) hsz (oneC _) ?_
  refine hK.out _ _ ?_ (fun hHeld => ?_)
  · exact Eo.set4 (Eo.set3 HS6 _) _
  clear hK K hcs hsz
  (try simp only [Act.put])
  refine wpAnyH_take (i := 5) (oi := ⟨some 8, _, _, _, _, _⟩) (v := ?_) rfl (by kernel_rfl) (by kernel_rfl) (by kernel_rfl) (fun _ _ _ h => h) (Or.inl ⟨by rfl, ?_⟩) (by assumption) ?_
  rotate_left
  · (intro u hu; (try dsimp only at hu); go_simp; (try with_reducible rfl))
  (try simp only [Act.put, List.setIfInBounds_toArray, List.set_cons_zero, List.set_cons_succ])
  refine wpAnyH_done (by kernel_rfl) ?_ _
  go_wp2
  exact bodyPost_ret (res_sg_cm_tmp rfl _ _ (w.heap.size + 3) (w.heap.size + 4) y1 cm0 rfl rfl (Eo.rows HS6 y1 cm0).1 (Eo.rows HS6 y1 cm0).2.1) rfl ⟨rfl, (Eo.rows HS6 y1 cm0).2.2⟩
set_option maxRecDepth 100000 in
set_option maxHeartbeats 4000000 in
theorem donone_any (hk : ¬ (0 ≤ a.k ∧ a.k ≤ 11)) : Calls Tryz.prog 7 #[.agg #[.string nm, .int .i64 dl, .slice A n c], .agg #[.int .i64 s.id, .string s.dn, .int .i64 s.st, .int .i64 s.ph, .int .i64 s.sp, .int .i64 s.tr, .bool s.out, .int .i64 s.at_, .int .i64 s.sk], .agg #[.int .i64 a.k, .int .i64 a.now, .int .i64 a.r.sg, .int .i64 a.r.sp, .bool a.r.un, .int .i64 a.r.tr, .bool a.r.good]] w fun e w' => e = .returned (.tuple #[.agg (doA nm dl ss s a).1.arr, .agg (doA nm dl ss s a).2.1.arr, .int .i64 (doA nm dl ss s a).2.2]) ∧ Below w.heap.size w w' := by
  have hX : doA nm dl ss s a = (s, cm0, 0) := by unfold doA; rw [if_neg (by omega), if_neg (by omega), if_neg (by omega)]
  have _hid := hid
  have _ht := ht
  have _hd := hd
  rw [hX]
  clear hX
  have q0 : (a.k == 0) = false := by simp only [beq_eq_false_iff_ne, ne_eq]; omega
  have q1 : (a.k == 1) = false := by simp only [beq_eq_false_iff_ne, ne_eq]; omega
  have q2 : (a.k == 2) = false := by simp only [beq_eq_false_iff_ne, ne_eq]; omega
  have q3 : (a.k == 3) = false := by simp only [beq_eq_false_iff_ne, ne_eq]; omega
  have q4 : (a.k == 4) = false := by simp only [beq_eq_false_iff_ne, ne_eq]; omega
  have q5 : (a.k == 5) = false := by simp only [beq_eq_false_iff_ne, ne_eq]; omega
  have q6 : (a.k == 6) = false := by simp only [beq_eq_false_iff_ne, ne_eq]; omega
  have q7 : (a.k == 7) = false := by simp only [beq_eq_false_iff_ne, ne_eq]; omega
  have q8 : (a.k == 8) = false := by simp only [beq_eq_false_iff_ne, ne_eq]; omega
  have q9 : (a.k == 9) = false := by simp only [beq_eq_false_iff_ne, ne_eq]; omega
  have q10 : (a.k == 10) = false := by simp only [beq_eq_false_iff_ne, ne_eq]; omega
  have q11 : (a.k == 11) = false := by simp only [beq_eq_false_iff_ne, ne_eq]; omega
  clear hk hd ht hid _hid _ht _hd
  go_enter Tryz.func7, Tryz.ntmps7
  go_wp2
  have H6 := Lib.hid (eo6 (w := w) (nm := nm) (dl := dl) (A := A) (n := n) (c := c) (s := s) (a := a) (cs := (endS ⟨0, ⟨#[]⟩, 0, 0, 0, 0, false, 0, 0⟩ 0).arr) (cs' := cm0.arr) rfl rfl (Below.refl _ _))
  change (Code.region _ _ true).wp _ _ _ _
  generalize hW6 : ((((((w.alloc (.cells #[.string nm, .int .i64 dl, .slice A n c] 24)).alloc (.cells #[.int .i64 s.id, .string s.dn, .int .i64 s.st, .int .i64 s.ph, .int .i64 s.sp, .int .i64 s.tr, .bool s.out, .int .i64 s.at_, .int .i64 s.sk] 26)).alloc (.cells #[.int .i64 a.k, .int .i64 a.now, .int .i64 a.r.sg, .int .i64 a.r.sp, .bool a.r.un, .int .i64 a.r.tr, .bool a.r.good] 30)).alloc (.cells (endS ⟨0, ⟨#[]⟩, 0, 0, 0, 0, false, 0, 0⟩ 0).arr 26)).alloc (.cells cm0.arr 34)).alloc (.cells cm0.arr 34)) = W6 at H6
  unfold endS Sg.arr cm0 Cm.arr at hW6
  dsimp only at hW6
  rw [hW6]
  clear hW6
  have HS6 : (fun u => Eo w u nm dl A n c s a) W6.drew := H6.out.on (Below.drew (Below.refl _ _))
  have u0 : ∀ u, (fun u => Eo w u nm dl A n c s a) u → u.cell? ⟨w.heap.size + 1, 0, none⟩ = some (.int .i64 s.id) := fun u H => H.e.s.cell 0
  have u1 : ∀ u, (fun u => Eo w u nm dl A n c s a) u → u.cell? ⟨w.heap.size + 1, 1, none⟩ = some (.string s.dn) := fun u H => H.e.s.cell 1
  have u2 : ∀ u, (fun u => Eo w u nm dl A n c s a) u → u.cell? ⟨w.heap.size + 1, 2, none⟩ = some (.int .i64 s.st) := fun u H => H.e.s.cell 2
  have u3 : ∀ u, (fun u => Eo w u nm dl A n c s a) u → u.cell? ⟨w.heap.size + 1, 3, none⟩ = some (.int .i64 s.ph) := fun u H => H.e.s.cell 3
  have u4 : ∀ u, (fun u => Eo w u nm dl A n c s a) u → u.cell? ⟨w.heap.size + 1, 4, none⟩ = some (.int .i64 s.sp) := fun u H => H.e.s.cell 4
  have u5 : ∀ u, (fun u => Eo w u nm dl A n c s a) u → u.cell? ⟨w.heap.size + 1, 5, none⟩ = some (.int .i64 s.tr) := fun u H => H.e.s.cell 5
  have u6 : ∀ u, (fun u => Eo w u nm dl A n c s a) u → u.cell? ⟨w.heap.size + 1, 6, none⟩ = some (.bool s.out) := fun u H => H.e.s.cell 6
  have u7 : ∀ u, (fun u => Eo w u nm dl A n c s a) u → u.cell? ⟨w.heap.size + 1, 7, none⟩ = some (.int .i64 s.at_) := fun u H => H.e.s.cell 7
  have u8 : ∀ u, (fun u => Eo w u nm dl A n c s a) u → u.cell? ⟨w.heap.size + 1, 8, none⟩ = some (.int .i64 s.sk) := fun u H => H.e.s.cell 8
  have k0 : ∀ u, (fun u => Eo w u nm dl A n c s a) u → u.cell? ⟨w.heap.size + 5, 0, none⟩ = some (.int .i64 0) := fun u H => H.c.cell 0
  have k1 : ∀ u, (fun u => Eo w u nm dl A n c s a) u → u.cell? ⟨w.heap.size + 5, 1, none⟩ = some (.int .i64 0) := fun u H => H.c.cell 1
  have k2 : ∀ u, (fun u => Eo w u nm dl A n c s a) u → u.cell? ⟨w.heap.size + 5, 2, none⟩ = some (.bool false) := fun u H => H.c.cell 2
  have k3 : ∀ u, (fun u => Eo w u nm dl A n c s a) u → u.cell? ⟨w.heap.size + 5, 3, none⟩ = some (.int .i64 0) := fun u H => H.c.cell 3
  have k4 : ∀ u, (fun u => Eo w u nm dl A n c s a) u → u.cell? ⟨w.heap.size + 5, 4, none⟩ = some (.string ⟨#[]⟩) := fun u H => H.c.cell 4
  have k5 : ∀ u, (fun u => Eo w u nm dl A n c s a) u → u.cell? ⟨w.heap.size + 5, 5, none⟩ = some (.string ⟨#[]⟩) := fun u H => H.c.cell 5
  refine wp_region_held_drew (S := fun u => Eo w u nm dl A n c s a) (by kernel_rfl) HS6 (fun hHeld => ?_)
  refine wpAnyH_take (i := 0) (oi := ⟨some 100, _, _, _, _, _⟩) (v := ?_) rfl (by kernel_rfl) (by kernel_rfl) (by kernel_rfl) (fun _ _ _ h => h) (Or.inl ⟨by rfl, ?_⟩) (by assumption) ?_
  rotate_left
  · (intro u hu; (try dsimp only at hu); go_simp; (try with_reducible rfl))
  (try simp only [Act.put, List.setIfInBounds_toArray, List.set_cons_zero, List.set_cons_succ])
  refine wpAnyH_take (i := 1) (oi := ⟨some 101, _, _, _, _, _⟩) (v := ?_) rfl (by kernel_rfl) (by kernel_rfl) (by kernel_rfl) (fun _ _ _ h => h) (Or.inl ⟨by rfl, ?_⟩) (by assumption) ?_
  rotate_left
  · (intro u hu; (try dsimp only at hu); go_simp; (try with_reducible rfl))
  (try simp only [Act.put, List.setIfInBounds_toArray, List.set_cons_zero, List.set_cons_succ])
  refine wpAnyH_take (i := 2) (oi := ⟨some 102, _, _, _, _, _⟩) (v := ?_) rfl (by kernel_rfl) (by kernel_rfl) (by kernel_rfl) (fun _ _ _ h => h) (Or.inl ⟨by rfl, ?_⟩) (by assumption) ?_
  rotate_left
  · (intro u hu; (try dsimp only at hu); go_simp; (try with_reducible rfl))
  (try simp only [Act.put, List.setIfInBounds_toArray, List.set_cons_zero, List.set_cons_succ])
  refine wpAnyH_ready (rs := [3]) (by kernel_rfl) (by simp) ?_
  refine AllReadyH.cons (o := ⟨none, _, _, _, _, _⟩) rfl (fun K hK => ?_) AllReadyH.nil
  rw [if_pos (by rfl)]
  obtain ⟨cs, hcs, hsz⟩ := HS6.q
  refine oper_store_row 26 _ _ rfl (w.heap.size + 3) 26 cs (s).arr rfl rfl hcs (sizeG _) hsz (oneG _) ?_
  refine hK.out _ _ ?_ (fun hHeld => ?_)
  · exact Eo.set3 HS6 _
  clear hK K hcs hsz
  (try simp only [Act.put])
  refine wpAnyH_ready (rs := [4]) (by kernel_rfl) (by simp) ?_
  refine AllReadyH.cons (o := ⟨none, _, _, _, _, _⟩) rfl (fun K hK => ?_) AllReadyH.nil
  rw [if_pos (by rfl)]
  obtain ⟨cs, hcs, hsz⟩ := (Eo.set3 HS6 _).k
  refine oper_store_row 34 _ _ rfl (w.heap.size + 4) 34 cs (cm0).arr rfl rfl hcs (sizeC _) hsz (oneC _) ?_
  refine hK.out _ _ ?_ (fun hHeld => ?_)
  · exact Eo.set4 (Eo.set3 HS6 _) _
  clear hK K hcs hsz
  (try simp only [Act.put])
  refine wpAnyH_take (i := 5) (oi := ⟨some 8, _, _, _, _, _⟩) (v := ?_) rfl (by kernel_rfl) (by kernel_rfl) (by kernel_rfl) (fun _ _ _ h => h) (Or.inl ⟨by rfl, ?_⟩) (by assumption) ?_
  rotate_left
  · (intro u hu; (try dsimp only at hu); go_simp; (try with_reducible rfl))
  (try simp only [Act.put, List.setIfInBounds_toArray, List.set_cons_zero, List.set_cons_succ])
  refine wpAnyH_done (by kernel_rfl) ?_ _
  go_wp2
  exact bodyPost_ret (res_sg_cm_tmp rfl _ _ (w.heap.size + 3) (w.heap.size + 4) s cm0 rfl rfl (Eo.rows HS6 s cm0).1 (Eo.rows HS6 s cm0).2.1) rfl ⟨rfl, (Eo.rows HS6 s cm0).2.2⟩
theorem do_any : Calls Tryz.prog 7 #[.agg #[.string nm, .int .i64 dl, .slice A n c], .agg #[.int .i64 s.id, .string s.dn, .int .i64 s.st, .int .i64 s.ph, .int .i64 s.sp, .int .i64 s.tr, .bool s.out, .int .i64 s.at_, .int .i64 s.sk], .agg #[.int .i64 a.k, .int .i64 a.now, .int .i64 a.r.sg, .int .i64 a.r.sp, .bool a.r.un, .int .i64 a.r.tr, .bool a.r.good]] w fun e w' => e = .returned (.tuple #[.agg (doA nm dl ss s a).1.arr, .agg (doA nm dl ss s a).2.1.arr, .int .i64 (doA nm dl ss s a).2.2]) ∧ Below w.heap.size w w' := by
  by_cases hk : 0 ≤ a.k ∧ a.k ≤ 11
  · have h : a.k = 0 ∨ a.k = 1 ∨ a.k = 2 ∨ a.k = 3 ∨ a.k = 4 ∨ a.k = 5 ∨ a.k = 6 ∨ a.k = 7 ∨ a.k = 8 ∨ a.k = 9 ∨ a.k = 10 ∨ a.k = 11 := by omega
    rcases h with h | h | h | h | h | h | h | h | h | h | h | h
    · exact do0_any nm dl A n c ss s a w hd ht hid h
    · exact do1_any nm dl A n c ss s a w hd ht hid h
    · exact do2_any nm dl A n c ss s a w hd ht hid h
    · exact do3_any nm dl A n c ss s a w hd ht hid h
    · exact do4_any nm dl A n c ss s a w hd ht hid h
    · exact do5_any nm dl A n c ss s a w hd ht hid h
    · exact do6_any nm dl A n c ss s a w hd ht hid h
    · exact do7_any nm dl A n c ss s a w hd ht hid h
    · exact do8_any nm dl A n c ss s a w hd ht hid h
    · exact do9_any nm dl A n c ss s a w hd ht hid h
    · exact do10_any nm dl A n c ss s a w hd ht hid h
    · exact do11_any nm dl A n c ss s a w hd ht hid h
  · exact donone_any nm dl A n c ss s a w hd ht hid hk
end
end Go.Proofs.YtkmldgcnbjjbcaaGreatDoor.Sa
