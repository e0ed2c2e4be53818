/-
  What acted of package state answers: layer 14's call of an event's kind.
  Conditions: the definition's steps lie in memory, its names are of moderate length.
-/
import Derived.Test.YteejocnogpaifaaGreatDoorMrg1
import Derived.Test.YteejocnogpaifaaGreatDoorStaMem
import Derived.Test.YteejocnogpaifaaGreatDoorSagUn
import Derived.Test.YteejocnogpaifaaGreatDoorSagReply
import Derived.Test.YteejocnogpaifaaGreatDoorSagEmit
import Derived.Test.YteejocnogpaifaaGreatDoorCodGood
namespace Go.Proofs.YteejocnogpaifaaGreatDoor.Tt
open Go.RowKit Go.Sort
open Go.Proofs.YteejocnogpaifaaGreatDoor.El
open Go.Proofs.YteejocnogpaifaaGreatDoor.Bo (P Made ret_int ret_bool)
open Go.Proofs.YteejocnogpaifaaGreatDoor.Df
open Go.Proofs.YteejocnogpaifaaGreatDoor.Sa
open Go.Proofs.YteejocnogpaifaaGreatDoor.Co (Ev Mod evc)

theorem al1t (w : World) (o : Obj) : Below w.heap.size w (w.alloc o) := (Below.refl _ _).alloc (Nat.le_refl _) _
theorem box_new5t (w : World) (o o' o2 o3 : Obj) (t : TypeId) (cs : Array Value) : Box (((((w.alloc o).alloc o').alloc o2).alloc o3).alloc (.cells cs t)) (w.heap.size + 4) t cs := by
  have := Box.new ((((w.alloc o).alloc o').alloc o2).alloc o3) t cs
  simpa using this
/-- blocks that acted has laid: a definition, a saga, an event, two results' -/
structure Et (w w' : World) (nm : ByteArray) (dl : Int) (A : Option Addr) (n c : Nat) (s : Sg) (v : Ev) (EA : Option Addr) (en ec : Nat) (X : Sg) (C : Cm) : Prop where
  e : Ed w w' nm dl A n c s
  v : Box w' (w.heap.size + 2) 35 #[.int .i64 v.k, .int .i64 v.now, .int .i64 v.sg, .string v.nm, .int .i64 v.r.sg, .int .i64 v.r.sp, .bool v.r.un, .int .i64 v.r.tr, .bool v.r.good, .string v.dn, .int .i64 v.dl, .slice EA en ec]
  q : Box w' (w.heap.size + 3) 49 X.arr
  k : Box w' (w.heap.size + 4) 37 C.arr
section
variable {w w' w2 : World} {nm : ByteArray} {dl : Int} {A : Option Addr} {n c : Nat} {s X : Sg} {C : Cm} {v : Ev} {EA : Option Addr} {en ec : Nat}
theorem Et.on (h : Et w w' nm dl A n c s v EA en ec X C) (hb : Below w'.heap.size w' w2) : Et w w2 nm dl A n c s v EA en ec X C := ⟨h.e.on hb, h.v.below hb h.v.lt, h.q.below hb h.q.lt, h.k.below hb h.k.lt⟩
def sg0 : Sg := ⟨0, ⟨#[]⟩, 0, 0, 0, 0, false, 0, 0⟩
theorem et5 (h : Below (((((w.alloc (.cells #[.string nm, .int .i64 dl, .slice A n c] 33)).alloc (.cells #[.int .i64 s.id, .string s.dn, .int .i64 s.st, .int .i64 s.ph, .int .i64 s.sp, .int .i64 s.tr, .bool s.out, .int .i64 s.at_, .int .i64 s.sk] 49)).alloc (.cells #[.int .i64 v.k, .int .i64 v.now, .int .i64 v.sg, .string v.nm, .int .i64 v.r.sg, .int .i64 v.r.sp, .bool v.r.un, .int .i64 v.r.tr, .bool v.r.good, .string v.dn, .int .i64 v.dl, .slice EA en ec] 35)).alloc (.cells sg0.arr 49)).alloc (.cells cm0.arr 37)).heap.size (((((w.alloc (.cells #[.string nm, .int .i64 dl, .slice A n c] 33)).alloc (.cells #[.int .i64 s.id, .string s.dn, .int .i64 s.st, .int .i64 s.ph, .int .i64 s.sp, .int .i64 s.tr, .bool s.out, .int .i64 s.at_, .int .i64 s.sk] 49)).alloc (.cells #[.int .i64 v.k, .int .i64 v.now, .int .i64 v.sg, .string v.nm, .int .i64 v.r.sg, .int .i64 v.r.sp, .bool v.r.un, .int .i64 v.r.tr, .bool v.r.good, .string v.dn, .int .i64 v.dl, .slice EA en ec] 35)).alloc (.cells sg0.arr 49)).alloc (.cells cm0.arr 37)) w') : Et w w' nm dl A n c s v EA en ec sg0 cm0 :=
  Et.on ⟨(((ed2 (Below.refl _ _)).on (al1t _ _)).on (al1t _ _)).on (al1t _ _), ((box_new3 w _ _ _ _).alloc _).alloc _, (box_new4 w _ _ _ _ _).alloc _, box_new5t w _ _ _ _ _ _⟩ h
theorem Et.set3 (h : Et w w' nm dl A n c s v EA en ec X C) (Y : Sg) : Et w (w'.setRow (w.heap.size + 3) Y.arr) nm dl A n c s v EA en ec Y C :=
  ⟨h.e.far (by omega) _, box_far h.v (by omega) _, box_row h.q _, box_far h.k (by omega) _⟩
theorem Et.set4 (h : Et w w' nm dl A n c s v EA en ec X C) (Y : Cm) : Et w (w'.setRow (w.heap.size + 4) Y.arr) nm dl A n c s v EA en ec X Y :=
  ⟨h.e.far (by omega) _, box_far h.v (by omega) _, box_far h.q (by omega) _, box_row h.k _⟩
end
theorem et_cells (w : World) (nm : ByteArray) (dl : Int) (A : Option Addr) (n c : Nat) (s : Sg) (v : Ev) (EA : Option Addr) (en ec : Nat) (X : Sg) (C : Cm) : (∀ u, Et w u nm dl A n c s v EA en ec X C → u.cell? ⟨w.heap.size + 3, 0, none⟩ = some (.int .i64 X.id)) ∧ (∀ u, Et w u nm dl A n c s v EA en ec X C → u.cell? ⟨w.heap.size + 3, 1, none⟩ = some (.string X.dn)) ∧ (∀ u, Et w u nm dl A n c s v EA en ec X C → u.cell? ⟨w.heap.size + 3, 2, none⟩ = some (.int .i64 X.st)) ∧ (∀ u, Et w u nm dl A n c s v EA en ec X C → u.cell? ⟨w.heap.size + 3, 3, none⟩ = some (.int .i64 X.ph)) ∧ (∀ u, Et w u nm dl A n c s v EA en ec X C → u.cell? ⟨w.heap.size + 3, 4, none⟩ = some (.int .i64 X.sp)) ∧ (∀ u, Et w u nm dl A n c s v EA en ec X C → u.cell? ⟨w.heap.size + 3, 5, none⟩ = some (.int .i64 X.tr)) ∧ (∀ u, Et w u nm dl A n c s v EA en ec X C → u.cell? ⟨w.heap.size + 3, 6, none⟩ = some (.bool X.out)) ∧ (∀ u, Et w u nm dl A n c s v EA en ec X C → u.cell? ⟨w.heap.size + 3, 7, none⟩ = some (.int .i64 X.at_)) ∧ (∀ u, Et w u nm dl A n c s v EA en ec X C → u.cell? ⟨w.heap.size + 3, 8, none⟩ = some (.int .i64 X.sk)) ∧ (∀ u, Et w u nm dl A n c s v EA en ec X C → u.cell? ⟨w.heap.size + 4, 0, none⟩ = some (.int .i64 C.sg)) ∧ (∀ u, Et w u nm dl A n c s v EA en ec X C → u.cell? ⟨w.heap.size + 4, 1, none⟩ = some (.int .i64 C.sp)) ∧ (∀ u, Et w u nm dl A n c s v EA en ec X C → u.cell? ⟨w.heap.size + 4, 2, none⟩ = some (.bool C.un)) ∧ (∀ u, Et w u nm dl A n c s v EA en ec X C → u.cell? ⟨w.heap.size + 4, 3, none⟩ = some (.int .i64 C.tr)) ∧ (∀ u, Et w u nm dl A n c s v EA en ec X C → u.cell? ⟨w.heap.size + 4, 4, none⟩ = some (.string C.pt)) ∧ (∀ u, Et w u nm dl A n c s v EA en ec X C → u.cell? ⟨w.heap.size + 4, 5, none⟩ = some (.string C.key)) :=
  ⟨fun _ H => H.q.cell 0, fun _ H => H.q.cell 1, fun _ H => H.q.cell 2, fun _ H => H.q.cell 3, fun _ H => H.q.cell 4, fun _ H => H.q.cell 5, fun _ H => H.q.cell 6, fun _ H => H.q.cell 7, fun _ H => H.q.cell 8, fun _ H => H.k.cell 0, fun _ H => H.k.cell 1, fun _ H => H.k.cell 2, fun _ H => H.k.cell 3, fun _ H => H.k.cell 4, fun _ H => H.k.cell 5⟩
theorem b5t (w : World) (o o' o2 o3 o4 : Obj) : Below w.heap.size w (((((w.alloc o).alloc o').alloc o2).alloc o3).alloc o4) := (((made3 w o o' o2).trans (Made.alloc _ _)).trans (Made.alloc _ _)).below
section
variable (nm : ByteArray) (dl : Int) (A : Option Addr) (n c : Nat) (ss : List Stp) (s : Sg) (v : Ev) (EA : Option Addr) (en ec : Nat) (w : World) (hd : Dn w nm A n c ss) (ht : s.tr ≤ 9223372036854775807) (hid : s.id ≤ 9223372036854775807)
include hd ht hid
set_option maxRecDepth 100000 in
set_option maxHeartbeats 4000000 in
theorem acted2_any (hk : v.k = 2) : Calls Tryz.prog 49 #[.agg #[.string nm, .int .i64 dl, .slice A n c], .agg #[.int .i64 s.id, .string s.dn, .int .i64 s.st, .int .i64 s.ph, .int .i64 s.sp, .int .i64 s.tr, .bool s.out, .int .i64 s.at_, .int .i64 s.sk], .agg #[.int .i64 v.k, .int .i64 v.now, .int .i64 v.sg, .string v.nm, .int .i64 v.r.sg, .int .i64 v.r.sp, .bool v.r.un, .int .i64 v.r.tr, .bool v.r.good, .string v.dn, .int .i64 v.dl, .slice EA en ec]] w fun e w' => e = .returned (.tuple #[.agg (actA ⟨nm, dl, ss⟩ s v).1.arr, .agg (actA ⟨nm, dl, ss⟩ s v).2.1.arr, .int .i64 (actA ⟨nm, dl, ss⟩ s v).2.2]) ∧ Below w.heap.size w w' := by
  have hX : (actA ⟨nm, dl, ss⟩ s v) = emitA nm dl ss s v.now := by
    unfold actA doA acK
    dsimp only
    rw [if_pos hk, if_pos (by omega)]
  have _hid := hid
  have _ht := ht
  have HE := Lib.hid (fun W (hW : Below w.heap.size w W) => emit_any nm dl A n c ss s W (hd.on hW) v.now ht hid)
  rw [hX]
  generalize emitA nm dl ss s v.now = Y at *
  obtain ⟨y1, y2, y3⟩ := Y
  dsimp only at HE ⊢
  clear hX
  have q2 : (v.k == 2) = true := by simp [hk]
  clear hk hd ht hid _hid _ht
  go_enter Tryz.func49, Tryz.ntmps49
  go_wp2_with (first
    | (go_at_call 78; (with_reducible refine (HE.out _ (b5t w _ _ _ _ _)).mono ?_); rintro e w1 ⟨rfl, hm⟩; have H1 := Lib.hid (et5 (s := s) (v := v) hm); clear hm; obtain ⟨d0, d1, d2⟩ := H1.out.e.cd; obtain ⟨c0, c1, c2, c3, c4, c5, c6, c7, c8⟩ := H1.out.e.cs; obtain ⟨a0, a1, a2, a3, a4, a5, a6, a7, a8, a9, a10, a11⟩ := evc H1.out.v)
    | (refine wpList_store_row rfl 49 _ _ rfl (w.heap.size + 3) 49 sg0.arr (y1).arr rfl rfl H1.out.q (sizeG _) rfl (oneG _) ?_)
    | (refine wpList_store_row rfl 37 _ _ rfl (w.heap.size + 4) 37 cm0.arr (y2).arr rfl rfl (Et.set3 H1.out y1).k (sizeC _) rfl (oneC _) ?_))
  have H6 := Lib.hid ((H1.out.set3 y1).set4 y2)
  generalize (w1.setRow (w.heap.size + 3) y1.arr).setRow (w.heap.size + 4) y2.arr = W6 at *
  have HS6 : (fun u => Et w u nm dl A n c s v EA en ec y1 y2) W6.drew := H6.out.on (Below.drew (Below.refl _ _))
  obtain ⟨u0, u1, u2, u3, u4, u5, u6, u7, u8, k0, k1, k2, k3, k4, k5⟩ := et_cells w nm dl A n c s v EA en ec y1 y2
  refine wp_region_held_drew (S := fun u => Et w u nm dl A n c s v EA en ec y1 y2) (by kernel_rfl) HS6 (fun hHeld => ?_)
  refine Un.tk 0 94 rfl ?_
  refine Un.tk 1 95 rfl ?_
  refine Un.tk 2 96 rfl ?_
  refine Sa.st1 3 49 _ _ rfl (w.heap.size + 3) 49 (y1).arr (y1).arr rfl rfl HS6.q (sizeG _) rfl (oneG _) (Et.set3 HS6 y1) (fun hHeld => ?_)
  refine Sa.st1 4 37 _ _ rfl (w.heap.size + 4) 37 (y2).arr (y2).arr rfl rfl (Et.set3 HS6 y1).k (sizeC _) rfl (oneC _) (Et.set4 (Et.set3 HS6 y1) y2) (fun hHeld => ?_)
  refine Un.tk 5 8 rfl ?_
  refine wpAnyH_done (by kernel_rfl) ?_ _
  go_wp2
  exact bodyPost_ret (res_sg_cm_tmp rfl _ _ (w.heap.size + 3) (w.heap.size + 4) y1 y2 rfl rfl (Et.set4 (Et.set3 HS6 y1) y2).q (Et.set4 (Et.set3 HS6 y1) y2).k) rfl ⟨rfl, (Et.set4 (Et.set3 HS6 y1) y2).e.b⟩
set_option maxRecDepth 100000 in
set_option maxHeartbeats 4000000 in
theorem acted3_any (hk : v.k = 3) : Calls Tryz.prog 49 #[.agg #[.string nm, .int .i64 dl, .slice A n c], .agg #[.int .i64 s.id, .string s.dn, .int .i64 s.st, .int .i64 s.ph, .int .i64 s.sp, .int .i64 s.tr, .bool s.out, .int .i64 s.at_, .int .i64 s.sk], .agg #[.int .i64 v.k, .int .i64 v.now, .int .i64 v.sg, .string v.nm, .int .i64 v.r.sg, .int .i64 v.r.sp, .bool v.r.un, .int .i64 v.r.tr, .bool v.r.good, .string v.dn, .int .i64 v.dl, .slice EA en ec]] w fun e w' => e = .returned (.tuple #[.agg (actA ⟨nm, dl, ss⟩ s v).1.arr, .agg (actA ⟨nm, dl, ss⟩ s v).2.1.arr, .int .i64 (actA ⟨nm, dl, ss⟩ s v).2.2]) ∧ Below w.heap.size w w' := by
  have hX : (actA ⟨nm, dl, ss⟩ s v) = ((replyA nm dl ss s v.r v.now).1, cm0, (replyA nm dl ss s v.r v.now).2) := by
    unfold actA doA acK
    dsimp only
    rw [if_neg (show ¬ v.k = 2 by omega), if_pos hk, if_neg (by omega), if_pos (by omega)]
  have _hid := hid
  have _ht := ht
  have HE := Lib.hid (fun W (hW : Below w.heap.size w W) => reply_any nm dl A n c ss s v.r W (hd.on hW) v.now ht)
  rw [hX]
  generalize replyA nm dl ss s v.r v.now = Y at *
  obtain ⟨y1, y2⟩ := Y
  dsimp only at HE ⊢
  clear hX
  have q2 : (v.k == 2) = false := by simp [hk]
  have q3 : (v.k == 3) = true := by simp [hk]
  clear hk hd ht hid _hid _ht
  go_enter Tryz.func49, Tryz.ntmps49
  go_wp2_with (first
    | (go_at_call 79; (with_reducible refine (HE.out _ (b5t w _ _ _ _ _)).mono ?_); rintro e w1 ⟨rfl, hm⟩; have H1 := Lib.hid (et5 (s := s) (v := v) hm); clear hm; obtain ⟨d0, d1, d2⟩ := H1.out.e.cd; obtain ⟨c0, c1, c2, c3, c4, c5, c6, c7, c8⟩ := H1.out.e.cs; obtain ⟨a0, a1, a2, a3, a4, a5, a6, a7, a8, a9, a10, a11⟩ := evc H1.out.v)
    | (refine wpList_store_row rfl 49 _ _ rfl (w.heap.size + 3) 49 sg0.arr (y1).arr rfl rfl H1.out.q (sizeG _) rfl (oneG _) ?_))
  have H6 := Lib.hid (H1.out.set3 y1)
  generalize w1.setRow (w.heap.size + 3) y1.arr = W6 at *
  have HS6 : (fun u => Et w u nm dl A n c s v EA en ec y1 cm0) W6.drew := H6.out.on (Below.drew (Below.refl _ _))
  obtain ⟨u0, u1, u2, u3, u4, u5, u6, u7, u8, k0, k1, k2, k3, k4, k5⟩ := et_cells w nm dl A n c s v EA en ec y1 cm0
  refine wp_region_held_drew (S := fun u => Et w u nm dl A n c s v EA en ec y1 cm0) (by kernel_rfl) HS6 (fun hHeld => ?_)
  refine Un.tk 0 94 rfl ?_
  refine Un.tk 1 95 rfl ?_
  refine Un.tk 2 96 rfl ?_
  refine Sa.st1 3 49 _ _ rfl (w.heap.size + 3) 49 (y1).arr (y1).arr rfl rfl HS6.q (sizeG _) rfl (oneG _) (Et.set3 HS6 y1) (fun hHeld => ?_)
  refine Sa.st1 4 37 _ _ rfl (w.heap.size + 4) 37 (cm0).arr (cm0).arr rfl rfl (Et.set3 HS6 y1).k (sizeC _) rfl (oneC _) (Et.set4 (Et.set3 HS6 y1) cm0) (fun hHeld => ?_)
  refine Un.tk 5 8 rfl ?_
  refine wpAnyH_done (by kernel_rfl) ?_ _
  go_wp2
  exact bodyPost_ret (res_sg_cm_tmp rfl _ _ (w.heap.size + 3) (w.heap.size + 4) y1 cm0 rfl rfl (Et.set4 (Et.set3 HS6 y1) cm0).q (Et.set4 (Et.set3 HS6 y1) cm0).k) rfl ⟨rfl, (Et.set4 (Et.set3 HS6 y1) cm0).e.b⟩
set_option maxRecDepth 100000 in
set_option maxHeartbeats 4000000 in
theorem acted4_any (hk : v.k = 4) : Calls Tryz.prog 49 #[.agg #[.string nm, .int .i64 dl, .slice A n c], .agg #[.int .i64 s.id, .string s.dn, .int .i64 s.st, .int .i64 s.ph, .int .i64 s.sp, .int .i64 s.tr, .bool s.out, .int .i64 s.at_, .int .i64 s.sk], .agg #[.int .i64 v.k, .int .i64 v.now, .int .i64 v.sg, .string v.nm, .int .i64 v.r.sg, .int .i64 v.r.sp, .bool v.r.un, .int .i64 v.r.tr, .bool v.r.good, .string v.dn, .int .i64 v.dl, .slice EA en ec]] w fun e w' => e = .returned (.tuple #[.agg (actA ⟨nm, dl, ss⟩ s v).1.arr, .agg (actA ⟨nm, dl, ss⟩ s v).2.1.arr, .int .i64 (actA ⟨nm, dl, ss⟩ s v).2.2]) ∧ Below w.heap.size w w' := by
  have hX : (actA ⟨nm, dl, ss⟩ s v) = ((lateA nm dl ss s v.now).1, cm0, (lateA nm dl ss s v.now).2) := by
    unfold actA doA acK
    dsimp only
    rw [if_neg (show ¬ v.k = 2 by omega), if_neg (show ¬ v.k = 3 by omega), if_neg (by omega), if_neg (by omega), if_pos (by omega)]
    unfold numA
    rw [if_pos (by omega)]
  have _hid := hid
  have _ht := ht
  have HE := Lib.hid (fun W (hW : Below w.heap.size w W) => late_any nm dl A n c ss s W (hd.on hW) v.now ht)
  rw [hX]
  generalize lateA nm dl ss s v.now = Y at *
  obtain ⟨y1, y2⟩ := Y
  dsimp only at HE ⊢
  clear hX
  have q2 : (v.k == 2) = false := by simp [hk]
  have q3 : (v.k == 3) = false := by simp [hk]
  have q4 : (v.k == 4) = true := by simp [hk]
  clear hk hd ht hid _hid _ht
  go_enter Tryz.func49, Tryz.ntmps49
  go_wp2_with (first
    | (go_at_call 80; (with_reducible refine (HE.out _ (b5t w _ _ _ _ _)).mono ?_); rintro e w1 ⟨rfl, hm⟩; have H1 := Lib.hid (et5 (s := s) (v := v) hm); clear hm; obtain ⟨d0, d1, d2⟩ := H1.out.e.cd; obtain ⟨c0, c1, c2, c3, c4, c5, c6, c7, c8⟩ := H1.out.e.cs; obtain ⟨a0, a1, a2, a3, a4, a5, a6, a7, a8, a9, a10, a11⟩ := evc H1.out.v)
    | (refine wpList_store_row rfl 49 _ _ rfl (w.heap.size + 3) 49 sg0.arr (y1).arr rfl rfl H1.out.q (sizeG _) rfl (oneG _) ?_))
  have H6 := Lib.hid (H1.out.set3 y1)
  generalize w1.setRow (w.heap.size + 3) y1.arr = W6 at *
  have HS6 : (fun u => Et w u nm dl A n c s v EA en ec y1 cm0) W6.drew := H6.out.on (Below.drew (Below.refl _ _))
  obtain ⟨u0, u1, u2, u3, u4, u5, u6, u7, u8, k0, k1, k2, k3, k4, k5⟩ := et_cells w nm dl A n c s v EA en ec y1 cm0
  refine wp_region_held_drew (S := fun u => Et w u nm dl A n c s v EA en ec y1 cm0) (by kernel_rfl) HS6 (fun hHeld => ?_)
  refine Un.tk 0 94 rfl ?_
  refine Un.tk 1 95 rfl ?_
  refine Un.tk 2 96 rfl ?_
  refine Sa.st1 3 49 _ _ rfl (w.heap.size + 3) 49 (y1).arr (y1).arr rfl rfl HS6.q (sizeG _) rfl (oneG _) (Et.set3 HS6 y1) (fun hHeld => ?_)
  refine Sa.st1 4 37 _ _ rfl (w.heap.size + 4) 37 (cm0).arr (cm0).arr rfl rfl (Et.set3 HS6 y1).k (sizeC _) rfl (oneC _) (Et.set4 (Et.set3 HS6 y1) cm0) (fun hHeld => ?_)
  refine Un.tk 5 8 rfl ?_
  refine wpAnyH_done (by kernel_rfl) ?_ _
  go_wp2
  exact bodyPost_ret (res_sg_cm_tmp rfl _ _ (w.heap.size + 3) (w.heap.size + 4) y1 cm0 rfl rfl (Et.set4 (Et.set3 HS6 y1) cm0).q (Et.set4 (Et.set3 HS6 y1) cm0).k) rfl ⟨rfl, (Et.set4 (Et.set3 HS6 y1) cm0).e.b⟩
set_option maxRecDepth 100000 in
set_option maxHeartbeats 4000000 in
theorem acted5_any (hk : v.k = 5) : Calls Tryz.prog 49 #[.agg #[.string nm, .int .i64 dl, .slice A n c], .agg #[.int .i64 s.id, .string s.dn, .int .i64 s.st, .int .i64 s.ph, .int .i64 s.sp, .int .i64 s.tr, .bool s.out, .int .i64 s.at_, .int .i64 s.sk], .agg #[.int .i64 v.k, .int .i64 v.now, .int .i64 v.sg, .string v.nm, .int .i64 v.r.sg, .int .i64 v.r.sp, .bool v.r.un, .int .i64 v.r.tr, .bool v.r.good, .string v.dn, .int .i64 v.dl, .slice EA en ec]] w fun e w' => e = .returned (.tuple #[.agg (actA ⟨nm, dl, ss⟩ s v).1.arr, .agg (actA ⟨nm, dl, ss⟩ s v).2.1.arr, .int .i64 (actA ⟨nm, dl, ss⟩ s v).2.2]) ∧ Below w.heap.size w w' := by
  have hX : (actA ⟨nm, dl, ss⟩ s v) = ((expireA nm dl ss s v.now).1, cm0, (expireA nm dl ss s v.now).2) := by
    unfold actA doA acK
    dsimp only
    rw [if_neg (show ¬ v.k = 2 by omega), if_neg (show ¬ v.k = 3 by omega), if_neg (by omega), if_neg (by omega), if_pos (by omega)]
    unfold numA
    rw [if_neg (by omega), if_pos (by omega)]
  have _hid := hid
  have _ht := ht
  have HE := Lib.hid (fun W (hW : Below w.heap.size w W) => expire_any nm dl A n c ss s W (hd.on hW) v.now)
  rw [hX]
  generalize expireA nm dl ss s v.now = Y at *
  obtain ⟨y1, y2⟩ := Y
  dsimp only at HE ⊢
  clear hX
  have q2 : (v.k == 2) = false := by simp [hk]
  have q3 : (v.k == 3) = false := by simp [hk]
  have q4 : (v.k == 4) = false := by simp [hk]
  have q5 : (v.k == 5) = true := by simp [hk]
  clear hk hd ht hid _hid _ht
  go_enter Tryz.func49, Tryz.ntmps49
  go_wp2_with (first
    | (go_at_call 81; (with_reducible refine (HE.out _ (b5t w _ _ _ _ _)).mono ?_); rintro e w1 ⟨rfl, hm⟩; have H1 := Lib.hid (et5 (s := s) (v := v) hm); clear hm; obtain ⟨d0, d1, d2⟩ := H1.out.e.cd; obtain ⟨c0, c1, c2, c3, c4, c5, c6, c7, c8⟩ := H1.out.e.cs; obtain ⟨a0, a1, a2, a3, a4, a5, a6, a7, a8, a9, a10, a11⟩ := evc H1.out.v)
    | (refine wpList_store_row rfl 49 _ _ rfl (w.heap.size + 3) 49 sg0.arr (y1).arr rfl rfl H1.out.q (sizeG _) rfl (oneG _) ?_))
  have H6 := Lib.hid (H1.out.set3 y1)
  generalize w1.setRow (w.heap.size + 3) y1.arr = W6 at *
  have HS6 : (fun u => Et w u nm dl A n c s v EA en ec y1 cm0) W6.drew := H6.out.on (Below.drew (Below.refl _ _))
  obtain ⟨u0, u1, u2, u3, u4, u5, u6, u7, u8, k0, k1, k2, k3, k4, k5⟩ := et_cells w nm dl A n c s v EA en ec y1 cm0
  refine wp_region_held_drew (S := fun u => Et w u nm dl A n c s v EA en ec y1 cm0) (by kernel_rfl) HS6 (fun hHeld => ?_)
  refine Un.tk 0 94 rfl ?_
  refine Un.tk 1 95 rfl ?_
  refine Un.tk 2 96 rfl ?_
  refine Sa.st1 3 49 _ _ rfl (w.heap.size + 3) 49 (y1).arr (y1).arr rfl rfl HS6.q (sizeG _) rfl (oneG _) (Et.set3 HS6 y1) (fun hHeld => ?_)
  refine Sa.st1 4 37 _ _ rfl (w.heap.size + 4) 37 (cm0).arr (cm0).arr rfl rfl (Et.set3 HS6 y1).k (sizeC _) rfl (oneC _) (Et.set4 (Et.set3 HS6 y1) cm0) (fun hHeld => ?_)
  refine Un.tk 5 8 rfl ?_
  refine wpAnyH_done (by kernel_rfl) ?_ _
  go_wp2
  exact bodyPost_ret (res_sg_cm_tmp rfl _ _ (w.heap.size + 3) (w.heap.size + 4) y1 cm0 rfl rfl (Et.set4 (Et.set3 HS6 y1) cm0).q (Et.set4 (Et.set3 HS6 y1) cm0).k) rfl ⟨rfl, (Et.set4 (Et.set3 HS6 y1) cm0).e.b⟩
set_option maxRecDepth 100000 in
set_option maxHeartbeats 4000000 in
theorem acted6_any (hk : v.k = 6) : Calls Tryz.prog 49 #[.agg #[.string nm, .int .i64 dl, .slice A n c], .agg #[.int .i64 s.id, .string s.dn, .int .i64 s.st, .int .i64 s.ph, .int .i64 s.sp, .int .i64 s.tr, .bool s.out, .int .i64 s.at_, .int .i64 s.sk], .agg #[.int .i64 v.k, .int .i64 v.now, .int .i64 v.sg, .string v.nm, .int .i64 v.r.sg, .int .i64 v.r.sp, .bool v.r.un, .int .i64 v.r.tr, .bool v.r.good, .string v.dn, .int .i64 v.dl, .slice EA en ec]] w fun e w' => e = .returned (.tuple #[.agg (actA ⟨nm, dl, ss⟩ s v).1.arr, .agg (actA ⟨nm, dl, ss⟩ s v).2.1.arr, .int .i64 (actA ⟨nm, dl, ss⟩ s v).2.2]) ∧ Below w.heap.size w w' := by
  have hX : (actA ⟨nm, dl, ss⟩ s v) = ((cancelA nm dl ss s v.now).1, cm0, (cancelA nm dl ss s v.now).2) := by
    unfold actA doA acK
    dsimp only
    rw [if_neg (show ¬ v.k = 2 by omega), if_neg (show ¬ v.k = 3 by omega), if_neg (by omega), if_neg (by omega), if_pos (by omega)]
    unfold numA
    rw [if_neg (by omega), if_neg (by omega), if_pos (by omega)]
  have _hid := hid
  have _ht := ht
  have HE := Lib.hid (fun W (hW : Below w.heap.size w W) => cancel_any nm dl A n c ss s W (hd.on hW) v.now)
  rw [hX]
  generalize cancelA nm dl ss s v.now = Y at *
  obtain ⟨y1, y2⟩ := Y
  dsimp only at HE ⊢
  clear hX
  have q2 : (v.k == 2) = false := by simp [hk]
  have q3 : (v.k == 3) = false := by simp [hk]
  have q4 : (v.k == 4) = false := by simp [hk]
  have q5 : (v.k == 5) = false := by simp [hk]
  have q6 : (v.k == 6) = true := by simp [hk]
  clear hk hd ht hid _hid _ht
  go_enter Tryz.func49, Tryz.ntmps49
  go_wp2_with (first
    | (go_at_call 82; (with_reducible refine (HE.out _ (b5t w _ _ _ _ _)).mono ?_); rintro e w1 ⟨rfl, hm⟩; have H1 := Lib.hid (et5 (s := s) (v := v) hm); clear hm; obtain ⟨d0, d1, d2⟩ := H1.out.e.cd; obtain ⟨c0, c1, c2, c3, c4, c5, c6, c7, c8⟩ := H1.out.e.cs; obtain ⟨a0, a1, a2, a3, a4, a5, a6, a7, a8, a9, a10, a11⟩ := evc H1.out.v)
    | (refine wpList_store_row rfl 49 _ _ rfl (w.heap.size + 3) 49 sg0.arr (y1).arr rfl rfl H1.out.q (sizeG _) rfl (oneG _) ?_))
  have H6 := Lib.hid (H1.out.set3 y1)
  generalize w1.setRow (w.heap.size + 3) y1.arr = W6 at *
  have HS6 : (fun u => Et w u nm dl A n c s v EA en ec y1 cm0) W6.drew := H6.out.on (Below.drew (Below.refl _ _))
  obtain ⟨u0, u1, u2, u3, u4, u5, u6, u7, u8, k0, k1, k2, k3, k4, k5⟩ := et_cells w nm dl A n c s v EA en ec y1 cm0
  refine wp_region_held_drew (S := fun u => Et w u nm dl A n c s v EA en ec y1 cm0) (by kernel_rfl) HS6 (fun hHeld => ?_)
  refine Un.tk 0 94 rfl ?_
  refine Un.tk 1 95 rfl ?_
  refine Un.tk 2 96 rfl ?_
  refine Sa.st1 3 49 _ _ rfl (w.heap.size + 3) 49 (y1).arr (y1).arr rfl rfl HS6.q (sizeG _) rfl (oneG _) (Et.set3 HS6 y1) (fun hHeld => ?_)
  refine Sa.st1 4 37 _ _ rfl (w.heap.size + 4) 37 (cm0).arr (cm0).arr rfl rfl (Et.set3 HS6 y1).k (sizeC _) rfl (oneC _) (Et.set4 (Et.set3 HS6 y1) cm0) (fun hHeld => ?_)
  refine Un.tk 5 8 rfl ?_
  refine wpAnyH_done (by kernel_rfl) ?_ _
  go_wp2
  exact bodyPost_ret (res_sg_cm_tmp rfl _ _ (w.heap.size + 3) (w.heap.size + 4) y1 cm0 rfl rfl (Et.set4 (Et.set3 HS6 y1) cm0).q (Et.set4 (Et.set3 HS6 y1) cm0).k) rfl ⟨rfl, (Et.set4 (Et.set3 HS6 y1) cm0).e.b⟩
set_option maxRecDepth 100000 in
set_option maxHeartbeats 4000000 in
theorem acted7_any (hk : v.k = 7) : Calls Tryz.prog 49 #[.agg #[.string nm, .int .i64 dl, .slice A n c], .agg #[.int .i64 s.id, .string s.dn, .int .i64 s.st, .int .i64 s.ph, .int .i64 s.sp, .int .i64 s.tr, .bool s.out, .int .i64 s.at_, .int .i64 s.sk], .agg #[.int .i64 v.k, .int .i64 v.now, .int .i64 v.sg, .string v.nm, .int .i64 v.r.sg, .int .i64 v.r.sp, .bool v.r.un, .int .i64 v.r.tr, .bool v.r.good, .string v.dn, .int .i64 v.dl, .slice EA en ec]] w fun e w' => e = .returned (.tuple #[.agg (actA ⟨nm, dl, ss⟩ s v).1.arr, .agg (actA ⟨nm, dl, ss⟩ s v).2.1.arr, .int .i64 (actA ⟨nm, dl, ss⟩ s v).2.2]) ∧ Below w.heap.size w w' := by
  have hX : (actA ⟨nm, dl, ss⟩ s v) = ((retryA nm dl ss s v.now).1, cm0, (retryA nm dl ss s v.now).2) := by
    unfold actA doA acK
    dsimp only
    rw [if_neg (show ¬ v.k = 2 by omega), if_neg (show ¬ v.k = 3 by omega), if_neg (by omega), if_neg (by omega), if_pos (by omega)]
    unfold numA
    rw [if_neg (by omega), if_neg (by omega), if_neg (by omega), if_pos (by omega)]
  have _hid := hid
  have _ht := ht
  have HE := Lib.hid (fun W (hW : Below w.heap.size w W) => retry_any nm dl A n c ss s W (hd.on hW) v.now)
  rw [hX]
  generalize retryA nm dl ss s v.now = Y at *
  obtain ⟨y1, y2⟩ := Y
  dsimp only at HE ⊢
  clear hX
  have q2 : (v.k == 2) = false := by simp [hk]
  have q3 : (v.k == 3) = false := by simp [hk]
  have q4 : (v.k == 4) = false := by simp [hk]
  have q5 : (v.k == 5) = false := by simp [hk]
  have q6 : (v.k == 6) = false := by simp [hk]
  have q7 : (v.k == 7) = true := by simp [hk]
  clear hk hd ht hid _hid _ht
  go_enter Tryz.func49, Tryz.ntmps49
  go_wp2_with (first
    | (go_at_call 83; (with_reducible refine (HE.out _ (b5t w _ _ _ _ _)).mono ?_); rintro e w1 ⟨rfl, hm⟩; have H1 := Lib.hid (et5 (s := s) (v := v) hm); clear hm; obtain ⟨d0, d1, d2⟩ := H1.out.e.cd; obtain ⟨c0, c1, c2, c3, c4, c5, c6, c7, c8⟩ := H1.out.e.cs; obtain ⟨a0, a1, a2, a3, a4, a5, a6, a7, a8, a9, a10, a11⟩ := evc H1.out.v)
    | (refine wpList_store_row rfl 49 _ _ rfl (w.heap.size + 3) 49 sg0.arr (y1).arr rfl rfl H1.out.q (sizeG _) rfl (oneG _) ?_))
  have H6 := Lib.hid (H1.out.set3 y1)
  generalize w1.setRow (w.heap.size + 3) y1.arr = W6 at *
  have HS6 : (fun u => Et w u nm dl A n c s v EA en ec y1 cm0) W6.drew := H6.out.on (Below.drew (Below.refl _ _))
  obtain ⟨u0, u1, u2, u3, u4, u5, u6, u7, u8, k0, k1, k2, k3, k4, k5⟩ := et_cells w nm dl A n c s v EA en ec y1 cm0
  refine wp_region_held_drew (S := fun u => Et w u nm dl A n c s v EA en ec y1 cm0) (by kernel_rfl) HS6 (fun hHeld => ?_)
  refine Un.tk 0 94 rfl ?_
  refine Un.tk 1 95 rfl ?_
  refine Un.tk 2 96 rfl ?_
  refine Sa.st1 3 49 _ _ rfl (w.heap.size + 3) 49 (y1).arr (y1).arr rfl rfl HS6.q (sizeG _) rfl (oneG _) (Et.set3 HS6 y1) (fun hHeld => ?_)
  refine Sa.st1 4 37 _ _ rfl (w.heap.size + 4) 37 (cm0).arr (cm0).arr rfl rfl (Et.set3 HS6 y1).k (sizeC _) rfl (oneC _) (Et.set4 (Et.set3 HS6 y1) cm0) (fun hHeld => ?_)
  refine Un.tk 5 8 rfl ?_
  refine wpAnyH_done (by kernel_rfl) ?_ _
  go_wp2
  exact bodyPost_ret (res_sg_cm_tmp rfl _ _ (w.heap.size + 3) (w.heap.size + 4) y1 cm0 rfl rfl (Et.set4 (Et.set3 HS6 y1) cm0).q (Et.set4 (Et.set3 HS6 y1) cm0).k) rfl ⟨rfl, (Et.set4 (Et.set3 HS6 y1) cm0).e.b⟩
set_option maxRecDepth 100000 in
set_option maxHeartbeats 4000000 in
theorem acted8_any (hk : v.k = 8) : Calls Tryz.prog 49 #[.agg #[.string nm, .int .i64 dl, .slice A n c], .agg #[.int .i64 s.id, .string s.dn, .int .i64 s.st, .int .i64 s.ph, .int .i64 s.sp, .int .i64 s.tr, .bool s.out, .int .i64 s.at_, .int .i64 s.sk], .agg #[.int .i64 v.k, .int .i64 v.now, .int .i64 v.sg, .string v.nm, .int .i64 v.r.sg, .int .i64 v.r.sp, .bool v.r.un, .int .i64 v.r.tr, .bool v.r.good, .string v.dn, .int .i64 v.dl, .slice EA en ec]] w fun e w' => e = .returned (.tuple #[.agg (actA ⟨nm, dl, ss⟩ s v).1.arr, .agg (actA ⟨nm, dl, ss⟩ s v).2.1.arr, .int .i64 (actA ⟨nm, dl, ss⟩ s v).2.2]) ∧ Below w.heap.size w w' := by
  have hX : (actA ⟨nm, dl, ss⟩ s v) = ((skipA nm dl ss s v.now).1, cm0, (skipA nm dl ss s v.now).2) := by
    unfold actA doA acK
    dsimp only
    rw [if_neg (show ¬ v.k = 2 by omega), if_neg (show ¬ v.k = 3 by omega), if_neg (by omega), if_neg (by omega), if_pos (by omega)]
    unfold numA
    rw [if_neg (by omega), if_neg (by omega), if_neg (by omega), if_neg (by omega), if_pos (by omega)]
  have _hid := hid
  have _ht := ht
  have HE := Lib.hid (fun W (hW : Below w.heap.size w W) => skip_any nm dl A n c ss s W (hd.on hW) v.now)
  rw [hX]
  generalize skipA nm dl ss s v.now = Y at *
  obtain ⟨y1, y2⟩ := Y
  dsimp only at HE ⊢
  clear hX
  have q2 : (v.k == 2) = false := by simp [hk]
  have q3 : (v.k == 3) = false := by simp [hk]
  have q4 : (v.k == 4) = false := by simp [hk]
  have q5 : (v.k == 5) = false := by simp [hk]
  have q6 : (v.k == 6) = false := by simp [hk]
  have q7 : (v.k == 7) = false := by simp [hk]
  have q8 : (v.k == 8) = true := by simp [hk]
  clear hk hd ht hid _hid _ht
  go_enter Tryz.func49, Tryz.ntmps49
  go_wp2_with (first
    | (go_at_call 84; (with_reducible refine (HE.out _ (b5t w _ _ _ _ _)).mono ?_); rintro e w1 ⟨rfl, hm⟩; have H1 := Lib.hid (et5 (s := s) (v := v) hm); clear hm; obtain ⟨d0, d1, d2⟩ := H1.out.e.cd; obtain ⟨c0, c1, c2, c3, c4, c5, c6, c7, c8⟩ := H1.out.e.cs; obtain ⟨a0, a1, a2, a3, a4, a5, a6, a7, a8, a9, a10, a11⟩ := evc H1.out.v)
    | (refine wpList_store_row rfl 49 _ _ rfl (w.heap.size + 3) 49 sg0.arr (y1).arr rfl rfl H1.out.q (sizeG _) rfl (oneG _) ?_))
  have H6 := Lib.hid (H1.out.set3 y1)
  generalize w1.setRow (w.heap.size + 3) y1.arr = W6 at *
  have HS6 : (fun u => Et w u nm dl A n c s v EA en ec y1 cm0) W6.drew := H6.out.on (Below.drew (Below.refl _ _))
  obtain ⟨u0, u1, u2, u3, u4, u5, u6, u7, u8, k0, k1, k2, k3, k4, k5⟩ := et_cells w nm dl A n c s v EA en ec y1 cm0
  refine wp_region_held_drew (S := fun u => Et w u nm dl A n c s v EA en ec y1 cm0) (by kernel_rfl) HS6 (fun hHeld => ?_)
  refine Un.tk 0 94 rfl ?_
  refine Un.tk 1 95 rfl ?_
  refine Un.tk 2 96 rfl ?_
  refine Sa.st1 3 49 _ _ rfl (w.heap.size + 3) 49 (y1).arr (y1).arr rfl rfl HS6.q (sizeG _) rfl (oneG _) (Et.set3 HS6 y1) (fun hHeld => ?_)
  refine Sa.st1 4 37 _ _ rfl (w.heap.size + 4) 37 (cm0).arr (cm0).arr rfl rfl (Et.set3 HS6 y1).k (sizeC _) rfl (oneC _) (Et.set4 (Et.set3 HS6 y1) cm0) (fun hHeld => ?_)
  refine Un.tk 5 8 rfl ?_
  refine wpAnyH_done (by kernel_rfl) ?_ _
  go_wp2
  exact bodyPost_ret (res_sg_cm_tmp rfl _ _ (w.heap.size + 3) (w.heap.size + 4) y1 cm0 rfl rfl (Et.set4 (Et.set3 HS6 y1) cm0).q (Et.set4 (Et.set3 HS6 y1) cm0).k) rfl ⟨rfl, (Et.set4 (Et.set3 HS6 y1) cm0).e.b⟩
set_option maxRecDepth 100000 in
set_option maxHeartbeats 4000000 in
theorem acted9_any (hk : v.k = 9) : Calls Tryz.prog 49 #[.agg #[.string nm, .int .i64 dl, .slice A n c], .agg #[.int .i64 s.id, .string s.dn, .int .i64 s.st, .int .i64 s.ph, .int .i64 s.sp, .int .i64 s.tr, .bool s.out, .int .i64 s.at_, .int .i64 s.sk], .agg #[.int .i64 v.k, .int .i64 v.now, .int .i64 v.sg, .string v.nm, .int .i64 v.r.sg, .int .i64 v.r.sp, .bool v.r.un, .int .i64 v.r.tr, .bool v.r.good, .string v.dn, .int .i64 v.dl, .slice EA en ec]] w fun e w' => e = .returned (.tuple #[.agg (actA ⟨nm, dl, ss⟩ s v).1.arr, .agg (actA ⟨nm, dl, ss⟩ s v).2.1.arr, .int .i64 (actA ⟨nm, dl, ss⟩ s v).2.2]) ∧ Below w.heap.size w w' := by
  have hX : (actA ⟨nm, dl, ss⟩ s v) = ((abandonA nm dl ss s v.now).1, cm0, (abandonA nm dl ss s v.now).2) := by
    unfold actA doA acK
    dsimp only
    rw [if_neg (show ¬ v.k = 2 by omega), if_neg (show ¬ v.k = 3 by omega), if_neg (by omega), if_neg (by omega), if_pos (by omega)]
    unfold numA
    rw [if_neg (by omega), if_neg (by omega), if_neg (by omega), if_neg (by omega), if_neg (by omega), if_pos (by omega)]
  have _hid := hid
  have _ht := ht
  have HE := Lib.hid (fun W (hW : Below w.heap.size w W) => abandon_any nm dl A n c ss s W (hd.on hW) v.now)
  rw [hX]
  generalize abandonA nm dl ss s v.now = Y at *
  obtain ⟨y1, y2⟩ := Y
  dsimp only at HE ⊢
  clear hX
  have q2 : (v.k == 2) = false := by simp [hk]
  have q3 : (v.k == 3) = false := by simp [hk]
  have q4 : (v.k == 4) = false := by simp [hk]
  have q5 : (v.k == 5) = false := by simp [hk]
  have q6 : (v.k == 6) = false := by simp [hk]
  have q7 : (v.k == 7) = false := by simp [hk]
  have q8 : (v.k == 8) = false := by simp [hk]
  have q9 : (v.k == 9) = true := by simp [hk]
  clear hk hd ht hid _hid _ht
  go_enter Tryz.func49, Tryz.ntmps49
  go_wp2_with (first
    | (go_at_call 85; (with_reducible refine (HE.out _ (b5t w _ _ _ _ _)).mono ?_); rintro e w1 ⟨rfl, hm⟩; have H1 := Lib.hid (et5 (s := s) (v := v) hm); clear hm; obtain ⟨d0, d1, d2⟩ := H1.out.e.cd; obtain ⟨c0, c1, c2, c3, c4, c5, c6, c7, c8⟩ := H1.out.e.cs; obtain ⟨a0, a1, a2, a3, a4, a5, a6, a7, a8, a9, a10, a11⟩ := evc H1.out.v)
    | (refine wpList_store_row rfl 49 _ _ rfl (w.heap.size + 3) 49 sg0.arr (y1).arr rfl rfl H1.out.q (sizeG _) rfl (oneG _) ?_))
  have H6 := Lib.hid (H1.out.set3 y1)
  generalize w1.setRow (w.heap.size + 3) y1.arr = W6 at *
  have HS6 : (fun u => Et w u nm dl A n c s v EA en ec y1 cm0) W6.drew := H6.out.on (Below.drew (Below.refl _ _))
  obtain ⟨u0, u1, u2, u3, u4, u5, u6, u7, u8, k0, k1, k2, k3, k4, k5⟩ := et_cells w nm dl A n c s v EA en ec y1 cm0
  refine wp_region_held_drew (S := fun u => Et w u nm dl A n c s v EA en ec y1 cm0) (by kernel_rfl) HS6 (fun hHeld => ?_)
  refine Un.tk 0 94 rfl ?_
  refine Un.tk 1 95 rfl ?_
  refine Un.tk 2 96 rfl ?_
  refine Sa.st1 3 49 _ _ rfl (w.heap.size + 3) 49 (y1).arr (y1).arr rfl rfl HS6.q (sizeG _) rfl (oneG _) (Et.set3 HS6 y1) (fun hHeld => ?_)
  refine Sa.st1 4 37 _ _ rfl (w.heap.size + 4) 37 (cm0).arr (cm0).arr rfl rfl (Et.set3 HS6 y1).k (sizeC _) rfl (oneC _) (Et.set4 (Et.set3 HS6 y1) cm0) (fun hHeld => ?_)
  refine Un.tk 5 8 rfl ?_
  refine wpAnyH_done (by kernel_rfl) ?_ _
  go_wp2
  exact bodyPost_ret (res_sg_cm_tmp rfl _ _ (w.heap.size + 3) (w.heap.size + 4) y1 cm0 rfl rfl (Et.set4 (Et.set3 HS6 y1) cm0).q (Et.set4 (Et.set3 HS6 y1) cm0).k) rfl ⟨rfl, (Et.set4 (Et.set3 HS6 y1) cm0).e.b⟩
theorem acted_any (hk : 2 ≤ v.k ∧ v.k ≤ 9) : Calls Tryz.prog 49 #[.agg #[.string nm, .int .i64 dl, .slice A n c], .agg #[.int .i64 s.id, .string s.dn, .int .i64 s.st, .int .i64 s.ph, .int .i64 s.sp, .int .i64 s.tr, .bool s.out, .int .i64 s.at_, .int .i64 s.sk], .agg #[.int .i64 v.k, .int .i64 v.now, .int .i64 v.sg, .string v.nm, .int .i64 v.r.sg, .int .i64 v.r.sp, .bool v.r.un, .int .i64 v.r.tr, .bool v.r.good, .string v.dn, .int .i64 v.dl, .slice EA en ec]] w fun e w' => e = .returned (.tuple #[.agg (actA ⟨nm, dl, ss⟩ s v).1.arr, .agg (actA ⟨nm, dl, ss⟩ s v).2.1.arr, .int .i64 (actA ⟨nm, dl, ss⟩ s v).2.2]) ∧ Below w.heap.size w w' := by
  have h : v.k = 2 ∨ v.k = 3 ∨ v.k = 4 ∨ v.k = 5 ∨ v.k = 6 ∨ v.k = 7 ∨ v.k = 8 ∨ v.k = 9 := by omega
  rcases h with h | h | h | h | h | h | h | h
  · exact acted2_any nm dl A n c ss s v EA en ec w hd ht hid h
  · exact acted3_any nm dl A n c ss s v EA en ec w hd ht hid h
  · exact acted4_any nm dl A n c ss s v EA en ec w hd ht hid h
  · exact acted5_any nm dl A n c ss s v EA en ec w hd ht hid h
  · exact acted6_any nm dl A n c ss s v EA en ec w hd ht hid h
  · exact acted7_any nm dl A n c ss s v EA en ec w hd ht hid h
  · exact acted8_any nm dl A n c ss s v EA en ec w hd ht hid h
  · exact acted9_any nm dl A n c ss s v EA en ec w hd ht hid h
end
end Go.Proofs.YteejocnogpaifaaGreatDoor.Tt
