/-
  What the statements' own tells answers: an act is done with a saga by the document.
  Conditions: the definition's steps lie in memory, its names are of moderate length.
-/
import Derived.Test.YtkmldgcnbjjbcaaGreatDoorSagDo
import Derived.Test.YtkmldgcnbjjbcaaGreatDoorSagRDo
import Derived.Test.YtkmldgcnbjjbcaaGreatDoorSagRReply
import Derived.Test.YtkmldgcnbjjbcaaGreatDoorSagRMay
import Derived.Test.YtkmldgcnbjjbcaaGreatDoorSagREmit
namespace Go.Proofs.YtkmldgcnbjjbcaaGreatDoor.Sa
open Go.RowKit Go.Sort
open Go.Proofs.YtkmldgcnbjjbcaaGreatDoor.El
open Go.Proofs.YtkmldgcnbjjbcaaGreatDoor.Bo (P Made ret_int ret_bool left wait)
open Go.Proofs.YtkmldgcnbjjbcaaGreatDoor.Df

/-- blocks that tells has laid: a definition, a saga, an act, two results', a command -/
structure Eu (w w' : World) (nm : ByteArray) (dl : Int) (A : Option Addr) (n c : Nat) (s : Sg) (a : Ac) (C : Cm) : Prop where
  e : Ed w w' nm dl A n c s
  a : Box w' (w.heap.size + 2) 30 a.arr
  q : Slot w' (w.heap.size + 3) 26 9
  k : Slot w' (w.heap.size + 4) 34 6
  c : Box w' (w.heap.size + 5) 34 C.arr
section
variable {w w' w2 : World} {nm : ByteArray} {dl : Int} {A : Option Addr} {n c : Nat} {s : Sg} {a : Ac} {C : Cm}
theorem Eu.of (h : Eo w w' nm dl A n c s a) : Eu w w' nm dl A n c s a cm0 := ⟨h.e, h.a, h.q, h.k, h.c⟩
theorem Eu.on (h : Eu w w' nm dl A n c s a C) (hb : Below w'.heap.size w' w2) : Eu w w2 nm dl A n c s a C := ⟨h.e.on hb, h.a.below hb h.a.lt, slot_on h.q hb, slot_on h.k hb, h.c.below hb h.c.lt⟩
theorem Eu.ac (h : Eu w w' nm dl A n c s a C) : w'.cell? ⟨w.heap.size + 2, 0, none⟩ = some (.int .i64 a.k) ∧ w'.cell? ⟨w.heap.size + 2, 1, none⟩ = some (.int .i64 a.now) ∧ w'.cell? ⟨w.heap.size + 2, 2, none⟩ = some (.int .i64 a.r.sg) ∧ w'.cell? ⟨w.heap.size + 2, 3, none⟩ = some (.int .i64 a.r.sp) ∧ w'.cell? ⟨w.heap.size + 2, 4, none⟩ = some (.bool a.r.un) ∧ w'.cell? ⟨w.heap.size + 2, 5, none⟩ = some (.int .i64 a.r.tr) ∧ w'.cell? ⟨w.heap.size + 2, 6, none⟩ = some (.bool a.r.good) :=
  ⟨h.a.cell 0, h.a.cell 1, h.a.cell 2, h.a.cell 3, h.a.cell 4, h.a.cell 5, h.a.cell 6⟩
theorem Eu.setS (h : Eu w w' nm dl A n c s a C) (X : Sg) : Eu w (w'.setRow (w.heap.size + 1) X.arr) nm dl A n c X a C :=
  ⟨⟨box_far h.e.d (by omega) _, box_row h.e.s _, row_end h.e.b (by omega) _⟩, box_far h.a (by omega) _, slot_rowfar h.q (by omega) _, slot_rowfar h.k (by omega) _, box_far h.c (by omega) _⟩
theorem Eu.setC (h : Eu w w' nm dl A n c s a C) (X : Cm) : Eu w (w'.setRow (w.heap.size + 5) X.arr) nm dl A n c s a X :=
  ⟨h.e.far (by omega) _, box_far h.a (by omega) _, slot_rowfar h.q (by omega) _, slot_rowfar h.k (by omega) _, box_row h.c _⟩
theorem Eu.set3 (h : Eu w w' nm dl A n c s a C) (X : Sg) : Eu w (w'.setRow (w.heap.size + 3) X.arr) nm dl A n c s a C :=
  ⟨h.e.far (by omega) _, box_far h.a (by omega) _, Box.slot (h.q.row X.arr) rfl, slot_rowfar h.k (by omega) _, box_far h.c (by omega) _⟩
theorem Eu.set4 (h : Eu w w' nm dl A n c s a C) (X : Cm) : Eu w (w'.setRow (w.heap.size + 4) X.arr) nm dl A n c s a C :=
  ⟨h.e.far (by omega) _, box_far h.a (by omega) _, slot_rowfar h.q (by omega) _, Box.slot (h.k.row X.arr) rfl, box_far h.c (by omega) _⟩
theorem Eu.rows (h : Eu w w' nm dl A n c s a C) (X : Sg) (Y : Cm) : Box ((w'.setRow (w.heap.size + 3) X.arr).setRow (w.heap.size + 4) Y.arr) (w.heap.size + 3) 26 X.arr ∧ Box ((w'.setRow (w.heap.size + 3) X.arr).setRow (w.heap.size + 4) Y.arr) (w.heap.size + 4) 34 Y.arr ∧ Below w.heap.size w ((w'.setRow (w.heap.size + 3) X.arr).setRow (w.heap.size + 4) Y.arr) :=
  ⟨(setRow_other _ (w.heap.size + 4) (w.heap.size + 3) _ (by omega)).trans (h.q.row X.arr), (slot_rowfar h.k (by omega) X.arr).row Y.arr, row_end (row_end h.e.b (by omega) _) (by omega) _⟩
end
section
variable (nm : ByteArray) (dl : Int) (A : Option Addr) (n c : Nat) (ss : List Stp) (s : Sg) (a : Ac) (w : World) (hd : Dn w nm A n c ss) (ht : s.tr ≤ 9223372036854775807) (hid : s.id ≤ 9223372036854775807)
include hd ht hid
set_option maxRecDepth 100000 in
set_option maxHeartbeats 4000000 in
theorem tells0_any (hk : a.k = 0) : Calls Tryz.prog 8 #[.agg #[.string nm, .int .i64 dl, .slice A n c], .agg #[.int .i64 s.id, .string s.dn, .int .i64 s.st, .int .i64 s.ph, .int .i64 s.sp, .int .i64 s.tr, .bool s.out, .int .i64 s.at_, .int .i64 s.sk], .agg #[.int .i64 a.k, .int .i64 a.now, .int .i64 a.r.sg, .int .i64 a.r.sp, .bool a.r.un, .int .i64 a.r.tr, .bool a.r.good]] w fun e w' => e = .returned (.tuple #[.agg (doA nm dl ss s a).1.arr, .agg (doA nm dl ss s a).2.1.arr, .int .i64 (doA nm dl ss s a).2.2]) ∧ Below w.heap.size w w' := by
  have HR := Lib.hid (fun W (hW : Below w.heap.size w W) => rcheck14_any nm dl A n c ss s W (hd.on hW) a.now)
  have HM := Lib.hid (fun W (hW : Below w.heap.size w W) => rmay14_any nm dl A n c ss s W (hd.on hW) a.now)
  have hX : doA nm dl ss s a = emitA nm dl ss s a.now := by unfold doA; rw [if_pos (by omega)]
  have q0 : (a.k == 0) = true := by simp [hk]
  by_cases h0 : refE nm dl ss s a.now = 0
  · have hr := refE_zero h0
    cases hm : mayC dl ss s a.now with
    | false =>
      have hmb : mayB nm dl ss s a.now = false := by unfold mayB; rw [hm, Bool.and_false]
      have hY : emitA nm dl ss s a.now = (s, cm0, 9) := by unfold emitA; rw [if_neg (by simpa using h0), if_pos hm]
      rw [h0] at HR
      rw [hmb] at HM
      rw [hX, hY]
      clear hX hY hr hd ht hid h0 hm hmb hk
      go_enter Tryz.func8, Tryz.ntmps8
      go_wp2_with (first
        | (go_at_call 26; (with_reducible refine (HR.out _ (b6 w _ _ _ _ _ _)).mono ?_); rintro e w1 ⟨rfl, hm⟩; have H1 := Lib.hid (Eu.of (eo6 (s := s) (a := a) rfl rfl hm)); clear hm; obtain ⟨d0, d1, d2⟩ := H1.out.e.cd; obtain ⟨c0, c1, c2, c3, c4, c5, c6, c7, c8⟩ := H1.out.e.cs; obtain ⟨a0, a1, a2, a3, a4, a5, a6⟩ := H1.out.ac)
        | (go_at_call 14; (with_reducible refine (HM.out _ H1.out.e.b).mono ?_); rintro e w2 ⟨rfl, hm⟩; have H2 := Lib.hid (H1.out.on hm); clear hm; obtain ⟨d0, d1, d2⟩ := H2.out.e.cd; obtain ⟨c0, c1, c2, c3, c4, c5, c6, c7, c8⟩ := H2.out.e.cs; obtain ⟨a0, a1, a2, a3, a4, a5, a6⟩ := H2.out.ac))
      have H6 := Lib.hid H2.out
      clear H1 H2 HR HM d0 d1 d2 c0 c1 c2 c3 c4 c5 c6 c7 c8 a0 a1 a2 a3 a4 a5 a6
      generalize w2 = W6 at *
      have HS6 : (fun u => Eu w u nm dl A n c s a cm0) W6.drew := H6.out.on (Below.drew (Below.refl _ _))
      have u0 : ∀ u, (fun u => Eu w u nm dl A n c s a cm0) u → u.cell? ⟨w.heap.size + 1, 0, none⟩ = some (.int .i64 s.id) := fun u H => H.e.s.cell 0
      have u1 : ∀ u, (fun u => Eu w u nm dl A n c s a cm0) u → u.cell? ⟨w.heap.size + 1, 1, none⟩ = some (.string s.dn) := fun u H => H.e.s.cell 1
      have u2 : ∀ u, (fun u => Eu w u nm dl A n c s a cm0) u → u.cell? ⟨w.heap.size + 1, 2, none⟩ = some (.int .i64 s.st) := fun u H => H.e.s.cell 2
      have u3 : ∀ u, (fun u => Eu w u nm dl A n c s a cm0) u → u.cell? ⟨w.heap.size + 1, 3, none⟩ = some (.int .i64 s.ph) := fun u H => H.e.s.cell 3
      have u4 : ∀ u, (fun u => Eu w u nm dl A n c s a cm0) u → u.cell? ⟨w.heap.size + 1, 4, none⟩ = some (.int .i64 s.sp) := fun u H => H.e.s.cell 4
      have u5 : ∀ u, (fun u => Eu w u nm dl A n c s a cm0) u → u.cell? ⟨w.heap.size + 1, 5, none⟩ = some (.int .i64 s.tr) := fun u H => H.e.s.cell 5
      have u6 : ∀ u, (fun u => Eu w u nm dl A n c s a cm0) u → u.cell? ⟨w.heap.size + 1, 6, none⟩ = some (.bool s.out) := fun u H => H.e.s.cell 6
      have u7 : ∀ u, (fun u => Eu w u nm dl A n c s a cm0) u → u.cell? ⟨w.heap.size + 1, 7, none⟩ = some (.int .i64 s.at_) := fun u H => H.e.s.cell 7
      have u8 : ∀ u, (fun u => Eu w u nm dl A n c s a cm0) u → u.cell? ⟨w.heap.size + 1, 8, none⟩ = some (.int .i64 s.sk) := fun u H => H.e.s.cell 8
      have k0 : ∀ u, (fun u => Eu w u nm dl A n c s a cm0) u → u.cell? ⟨w.heap.size + 5, 0, none⟩ = some (.int .i64 cm0.sg) := fun u H => H.c.cell 0
      have k1 : ∀ u, (fun u => Eu w u nm dl A n c s a cm0) u → u.cell? ⟨w.heap.size + 5, 1, none⟩ = some (.int .i64 cm0.sp) := fun u H => H.c.cell 1
      have k2 : ∀ u, (fun u => Eu w u nm dl A n c s a cm0) u → u.cell? ⟨w.heap.size + 5, 2, none⟩ = some (.bool cm0.un) := fun u H => H.c.cell 2
      have k3 : ∀ u, (fun u => Eu w u nm dl A n c s a cm0) u → u.cell? ⟨w.heap.size + 5, 3, none⟩ = some (.int .i64 cm0.tr) := fun u H => H.c.cell 3
      have k4 : ∀ u, (fun u => Eu w u nm dl A n c s a cm0) u → u.cell? ⟨w.heap.size + 5, 4, none⟩ = some (.string cm0.pt) := fun u H => H.c.cell 4
      have k5 : ∀ u, (fun u => Eu w u nm dl A n c s a cm0) u → u.cell? ⟨w.heap.size + 5, 5, none⟩ = some (.string cm0.key) := fun u H => H.c.cell 5
      refine wp_region_held_drew (S := fun u => Eu w u nm dl A n c s a cm0) (by kernel_rfl) HS6 (fun hHeld => ?_)
      refine wpAnyH_take (i := 0) (oi := ⟨some 75, _, _, _, _, _⟩) (v := ?_) rfl (by kernel_rfl) (by kernel_rfl) (by kernel_rfl) (fun _ _ _ h => h) (Or.inl ⟨by rfl, ?_⟩) (by assumption) ?_
      rotate_left
      · (intro u hu; (try dsimp only at hu); go_simp; (try with_reducible rfl))
      (try simp only [Act.put, List.setIfInBounds_toArray, List.set_cons_zero, List.set_cons_succ])
      refine wpAnyH_take (i := 1) (oi := ⟨some 76, _, _, _, _, _⟩) (v := ?_) rfl (by kernel_rfl) (by kernel_rfl) (by kernel_rfl) (fun _ _ _ h => h) (Or.inl ⟨by rfl, ?_⟩) (by assumption) ?_
      rotate_left
      · (intro u hu; (try dsimp only at hu); go_simp; (try with_reducible rfl))
      (try simp only [Act.put, List.setIfInBounds_toArray, List.set_cons_zero, List.set_cons_succ])
      refine wpAnyH_take (i := 2) (oi := ⟨some 77, _, _, _, _, _⟩) (v := ?_) rfl (by kernel_rfl) (by kernel_rfl) (by kernel_rfl) (fun _ _ _ h => h) (Or.inl ⟨by rfl, ?_⟩) (by assumption) ?_
      rotate_left
      · (intro u hu; (try dsimp only at hu); go_simp; (try with_reducible rfl))
      (try simp only [Act.put, List.setIfInBounds_toArray, List.set_cons_zero, List.set_cons_succ])
      refine wpAnyH_ready (rs := [3]) (by kernel_rfl) (by simp) ?_
      refine AllReadyH.cons (o := ⟨none, _, _, _, _, _⟩) rfl (fun K hK => ?_) AllReadyH.nil
      rw [if_pos (by rfl)]
      obtain ⟨cs, hcs, hsz⟩ := HS6.q
      refine oper_store_row 26 _ _ rfl (w.heap.size + 3) 26 cs (s).arr rfl rfl hcs (sizeG _) hsz (oneG _) ?_
      refine hK.out _ _ ?_ (fun hHeld => ?_)
      · exact Eu.set3 HS6 _
      clear hK K hcs hsz
      (try simp only [Act.put])
      refine wpAnyH_ready (rs := [4]) (by kernel_rfl) (by simp) ?_
      refine AllReadyH.cons (o := ⟨none, _, _, _, _, _⟩) rfl (fun K hK => ?_) AllReadyH.nil
      rw [if_pos (by rfl)]
      obtain ⟨cs, hcs, hsz⟩ := (Eu.set3 HS6 _).k
      refine oper_store_row 34 _ _ rfl (w.heap.size + 4) 34 cs (cm0).arr rfl rfl hcs (sizeC _) hsz (oneC _) ?_
      refine hK.out _ _ ?_ (fun hHeld => ?_)
      · exact Eu.set4 (Eu.set3 HS6 _) _
      clear hK K hcs hsz
      (try simp only [Act.put])
      refine wpAnyH_take (i := 5) (oi := ⟨some 8, _, _, _, _, _⟩) (v := ?_) rfl (by kernel_rfl) (by kernel_rfl) (by kernel_rfl) (fun _ _ _ h => h) (Or.inl ⟨by rfl, ?_⟩) (by assumption) ?_
      rotate_left
      · (intro u hu; (try dsimp only at hu); go_simp; (try with_reducible rfl))
      (try simp only [Act.put, List.setIfInBounds_toArray, List.set_cons_zero, List.set_cons_succ])
      refine wpAnyH_done (by kernel_rfl) ?_ _
      go_wp2
      exact bodyPost_ret (res_sg_cm_tmp rfl _ _ (w.heap.size + 3) (w.heap.size + 4) s cm0 rfl rfl (Eu.rows HS6 s cm0).1 (Eu.rows HS6 s cm0).2.1) rfl ⟨rfl, (Eu.rows HS6 s cm0).2.2⟩
    | true =>
      have hmb : mayB nm dl ss s a.now = true := by unfold mayB; rw [hm, decide_eq_true h0]; rfl
      have hm' := of_decide_eq_true hm
      have hpg := good_plan hr.1
      have htr : s.tr ≤ 1001 := by have := hpg.2.1; omega
      have hY : emitA nm dl ss s a.now = (emitS ss s a.now, emitC ss s, 0) := by unfold emitA; rw [if_neg (by simpa using h0), if_neg (by rw [hm]; simp)]
      have HE := Lib.hid (fun W (hW : Below w.heap.size w W) => remit_any nm dl A n c ss s W (hd.on hW) a.now hr.1 htr hid)
      rw [h0] at HR
      rw [hmb] at HM
      rw [hX, hY]
      generalize emitS ss s a.now = y1 at *
      generalize emitC ss s = y2 at *
      clear hX hY hr hd ht hid h0 hm hmb hm' hpg htr hk
      go_enter Tryz.func8, Tryz.ntmps8
      go_wp2_with (first
        | (go_at_call 26; (with_reducible refine (HR.out _ (b6 w _ _ _ _ _ _)).mono ?_); rintro e w1 ⟨rfl, hm⟩; have H1 := Lib.hid (Eu.of (eo6 (s := s) (a := a) rfl rfl hm)); clear hm; obtain ⟨d0, d1, d2⟩ := H1.out.e.cd; obtain ⟨c0, c1, c2, c3, c4, c5, c6, c7, c8⟩ := H1.out.e.cs; obtain ⟨a0, a1, a2, a3, a4, a5, a6⟩ := H1.out.ac)
        | (go_at_call 14; (with_reducible refine (HM.out _ H1.out.e.b).mono ?_); rintro e w2 ⟨rfl, hm⟩; have H2 := Lib.hid (H1.out.on hm); clear hm; obtain ⟨d0, d1, d2⟩ := H2.out.e.cd; obtain ⟨c0, c1, c2, c3, c4, c5, c6, c7, c8⟩ := H2.out.e.cs; obtain ⟨a0, a1, a2, a3, a4, a5, a6⟩ := H2.out.ac)
        | (go_at_call 27; (with_reducible refine (HE.out _ H2.out.e.b).mono ?_); rintro e w3 ⟨rfl, hm⟩; have H3 := Lib.hid (H2.out.on hm); clear hm)
        | (obtain ⟨cs, hcs, hsz⟩ := (Box.slot H3.out.e.s rfl : Slot _ _ _ 9); refine wpList_store_row rfl 26 _ _ rfl (w.heap.size + 1) 26 cs (y1).arr rfl rfl hcs (sizeG _) hsz (oneG _) ?_)
        | (obtain ⟨ds, hds, hdsz⟩ := (Box.slot (H3.out.setS y1).c rfl : Slot _ _ _ 6); refine wpList_store_row rfl 34 _ _ rfl (w.heap.size + 5) 34 ds (y2).arr rfl rfl hds (sizeC _) hdsz (oneC _) ?_))
      have H6 := Lib.hid ((H3.out.setS y1).setC y2)
      clear H1 H2 H3 HR HM HE d0 d1 d2 c0 c1 c2 c3 c4 c5 c6 c7 c8 a0 a1 a2 a3 a4 a5 a6
      generalize (w3.setRow (w.heap.size + 1) y1.arr).setRow (w.heap.size + 5) y2.arr = W6 at *
      have HS6 : (fun u => Eu w u nm dl A n c y1 a y2) W6.drew := H6.out.on (Below.drew (Below.refl _ _))
      have u0 : ∀ u, (fun u => Eu w u nm dl A n c y1 a y2) u → u.cell? ⟨w.heap.size + 1, 0, none⟩ = some (.int .i64 y1.id) := fun u H => H.e.s.cell 0
      have u1 : ∀ u, (fun u => Eu w u nm dl A n c y1 a y2) u → u.cell? ⟨w.heap.size + 1, 1, none⟩ = some (.string y1.dn) := fun u H => H.e.s.cell 1
      have u2 : ∀ u, (fun u => Eu w u nm dl A n c y1 a y2) u → u.cell? ⟨w.heap.size + 1, 2, none⟩ = some (.int .i64 y1.st) := fun u H => H.e.s.cell 2
      have u3 : ∀ u, (fun u => Eu w u nm dl A n c y1 a y2) u → u.cell? ⟨w.heap.size + 1, 3, none⟩ = some (.int .i64 y1.ph) := fun u H => H.e.s.cell 3
      have u4 : ∀ u, (fun u => Eu w u nm dl A n c y1 a y2) u → u.cell? ⟨w.heap.size + 1, 4, none⟩ = some (.int .i64 y1.sp) := fun u H => H.e.s.cell 4
      have u5 : ∀ u, (fun u => Eu w u nm dl A n c y1 a y2) u → u.cell? ⟨w.heap.size + 1, 5, none⟩ = some (.int .i64 y1.tr) := fun u H => H.e.s.cell 5
      have u6 : ∀ u, (fun u => Eu w u nm dl A n c y1 a y2) u → u.cell? ⟨w.heap.size + 1, 6, none⟩ = some (.bool y1.out) := fun u H => H.e.s.cell 6
      have u7 : ∀ u, (fun u => Eu w u nm dl A n c y1 a y2) u → u.cell? ⟨w.heap.size + 1, 7, none⟩ = some (.int .i64 y1.at_) := fun u H => H.e.s.cell 7
      have u8 : ∀ u, (fun u => Eu w u nm dl A n c y1 a y2) u → u.cell? ⟨w.heap.size + 1, 8, none⟩ = some (.int .i64 y1.sk) := fun u H => H.e.s.cell 8
      have k0 : ∀ u, (fun u => Eu w u nm dl A n c y1 a y2) u → u.cell? ⟨w.heap.size + 5, 0, none⟩ = some (.int .i64 y2.sg) := fun u H => H.c.cell 0
      have k1 : ∀ u, (fun u => Eu w u nm dl A n c y1 a y2) u → u.cell? ⟨w.heap.size + 5, 1, none⟩ = some (.int .i64 y2.sp) := fun u H => H.c.cell 1
      have k2 : ∀ u, (fun u => Eu w u nm dl A n c y1 a y2) u → u.cell? ⟨w.heap.size + 5, 2, none⟩ = some (.bool y2.un) := fun u H => H.c.cell 2
      have k3 : ∀ u, (fun u => Eu w u nm dl A n c y1 a y2) u → u.cell? ⟨w.heap.size + 5, 3, none⟩ = some (.int .i64 y2.tr) := fun u H => H.c.cell 3
      have k4 : ∀ u, (fun u => Eu w u nm dl A n c y1 a y2) u → u.cell? ⟨w.heap.size + 5, 4, none⟩ = some (.string y2.pt) := fun u H => H.c.cell 4
      have k5 : ∀ u, (fun u => Eu w u nm dl A n c y1 a y2) u → u.cell? ⟨w.heap.size + 5, 5, none⟩ = some (.string y2.key) := fun u H => H.c.cell 5
      refine wp_region_held_drew (S := fun u => Eu w u nm dl A n c y1 a y2) (by kernel_rfl) HS6 (fun hHeld => ?_)
      refine wpAnyH_take (i := 0) (oi := ⟨some 75, _, _, _, _, _⟩) (v := ?_) rfl (by kernel_rfl) (by kernel_rfl) (by kernel_rfl) (fun _ _ _ h => h) (Or.inl ⟨by rfl, ?_⟩) (by assumption) ?_
      rotate_left
      · (intro u hu; (try dsimp only at hu); go_simp; (try with_reducible rfl))
      (try simp only [Act.put, List.setIfInBounds_toArray, List.set_cons_zero, List.set_cons_succ])
      refine wpAnyH_take (i := 1) (oi := ⟨some 76, _, _, _, _, _⟩) (v := ?_) rfl (by kernel_rfl) (by kernel_rfl) (by kernel_rfl) (fun _ _ _ h => h) (Or.inl ⟨by rfl, ?_⟩) (by assumption) ?_
      rotate_left
      · (intro u hu; (try dsimp only at hu); go_simp; (try with_reducible rfl))
      (try simp only [Act.put, List.setIfInBounds_toArray, List.set_cons_zero, List.set_cons_succ])
      refine wpAnyH_take (i := 2) (oi := ⟨some 77, _, _, _, _, _⟩) (v := ?_) rfl (by kernel_rfl) (by kernel_rfl) (by kernel_rfl) (fun _ _ _ h => h) (Or.inl ⟨by rfl, ?_⟩) (by assumption) ?_
      rotate_left
      · (intro u hu; (try dsimp only at hu); go_simp; (try with_reducible rfl))
      (try simp only [Act.put, List.setIfInBounds_toArray, List.set_cons_zero, List.set_cons_succ])
      refine wpAnyH_ready (rs := [3]) (by kernel_rfl) (by simp) ?_
      refine AllReadyH.cons (o := ⟨none, _, _, _, _, _⟩) rfl (fun K hK => ?_) AllReadyH.nil
      rw [if_pos (by rfl)]
      obtain ⟨cs, hcs, hsz⟩ := HS6.q
      refine oper_store_row 26 _ _ rfl (w.heap.size + 3) 26 cs (y1).arr rfl rfl hcs (sizeG _) hsz (oneG _) ?_
      refine hK.out _ _ ?_ (fun hHeld => ?_)
      · exact Eu.set3 HS6 _
      clear hK K hcs hsz
      (try simp only [Act.put])
      refine wpAnyH_ready (rs := [4]) (by kernel_rfl) (by simp) ?_
      refine AllReadyH.cons (o := ⟨none, _, _, _, _, _⟩) rfl (fun K hK => ?_) AllReadyH.nil
      rw [if_pos (by rfl)]
      obtain ⟨cs, hcs, hsz⟩ := (Eu.set3 HS6 _).k
      refine oper_store_row 34 _ _ rfl (w.heap.size + 4) 34 cs (y2).arr rfl rfl hcs (sizeC _) hsz (oneC _) ?_
      refine hK.out _ _ ?_ (fun hHeld => ?_)
      · exact Eu.set4 (Eu.set3 HS6 _) _
      clear hK K hcs hsz
      (try simp only [Act.put])
      refine wpAnyH_take (i := 5) (oi := ⟨some 8, _, _, _, _, _⟩) (v := ?_) rfl (by kernel_rfl) (by kernel_rfl) (by kernel_rfl) (fun _ _ _ h => h) (Or.inl ⟨by rfl, ?_⟩) (by assumption) ?_
      rotate_left
      · (intro u hu; (try dsimp only at hu); go_simp; (try with_reducible rfl))
      (try simp only [Act.put, List.setIfInBounds_toArray, List.set_cons_zero, List.set_cons_succ])
      refine wpAnyH_done (by kernel_rfl) ?_ _
      go_wp2
      exact bodyPost_ret (res_sg_cm_tmp rfl _ _ (w.heap.size + 3) (w.heap.size + 4) y1 y2 rfl rfl (Eu.rows HS6 y1 y2).1 (Eu.rows HS6 y1 y2).2.1) rfl ⟨rfl, (Eu.rows HS6 y1 y2).2.2⟩
  · have g0 : (refE nm dl ss s a.now == 0) = false := by simpa using h0
    have hY : emitA nm dl ss s a.now = (s, cm0, refE nm dl ss s a.now) := by unfold emitA; rw [if_pos (by simpa using h0)]
    rw [hX, hY]
    generalize refE nm dl ss s a.now = r at *
    clear hX hY hd ht hid h0 HM hk
    go_enter Tryz.func8, Tryz.ntmps8
    go_wp2_with (first
      | (go_at_call 26; (with_reducible refine (HR.out _ (b6 w _ _ _ _ _ _)).mono ?_); rintro e w1 ⟨rfl, hm⟩; have H1 := Lib.hid (Eu.of (eo6 (s := s) (a := a) rfl rfl hm)); clear hm; obtain ⟨d0, d1, d2⟩ := H1.out.e.cd; obtain ⟨c0, c1, c2, c3, c4, c5, c6, c7, c8⟩ := H1.out.e.cs; obtain ⟨a0, a1, a2, a3, a4, a5, a6⟩ := H1.out.ac))
    have H6 := Lib.hid H1.out
    clear H1 HR d0 d1 d2 c0 c1 c2 c3 c4 c5 c6 c7 c8 a0 a1 a2 a3 a4 a5 a6
    generalize w1 = W6 at *
    have HS6 : (fun u => Eu w u nm dl A n c s a cm0) W6.drew := H6.out.on (Below.drew (Below.refl _ _))
    have u0 : ∀ u, (fun u => Eu w u nm dl A n c s a cm0) u → u.cell? ⟨w.heap.size + 1, 0, none⟩ = some (.int .i64 s.id) := fun u H => H.e.s.cell 0
    have u1 : ∀ u, (fun u => Eu w u nm dl A n c s a cm0) u → u.cell? ⟨w.heap.size + 1, 1, none⟩ = some (.string s.dn) := fun u H => H.e.s.cell 1
    have u2 : ∀ u, (fun u => Eu w u nm dl A n c s a cm0) u → u.cell? ⟨w.heap.size + 1, 2, none⟩ = some (.int .i64 s.st) := fun u H => H.e.s.cell 2
    have u3 : ∀ u, (fun u => Eu w u nm dl A n c s a cm0) u → u.cell? ⟨w.heap.size + 1, 3, none⟩ = some (.int .i64 s.ph) := fun u H => H.e.s.cell 3
    have u4 : ∀ u, (fun u => Eu w u nm dl A n c s a cm0) u → u.cell? ⟨w.heap.size + 1, 4, none⟩ = some (.int .i64 s.sp) := fun u H => H.e.s.cell 4
    have u5 : ∀ u, (fun u => Eu w u nm dl A n c s a cm0) u → u.cell? ⟨w.heap.size + 1, 5, none⟩ = some (.int .i64 s.tr) := fun u H => H.e.s.cell 5
    have u6 : ∀ u, (fun u => Eu w u nm dl A n c s a cm0) u → u.cell? ⟨w.heap.size + 1, 6, none⟩ = some (.bool s.out) := fun u H => H.e.s.cell 6
    have u7 : ∀ u, (fun u => Eu w u nm dl A n c s a cm0) u → u.cell? ⟨w.heap.size + 1, 7, none⟩ = some (.int .i64 s.at_) := fun u H => H.e.s.cell 7
    have u8 : ∀ u, (fun u => Eu w u nm dl A n c s a cm0) u → u.cell? ⟨w.heap.size + 1, 8, none⟩ = some (.int .i64 s.sk) := fun u H => H.e.s.cell 8
    have k0 : ∀ u, (fun u => Eu w u nm dl A n c s a cm0) u → u.cell? ⟨w.heap.size + 5, 0, none⟩ = some (.int .i64 cm0.sg) := fun u H => H.c.cell 0
    have k1 : ∀ u, (fun u => Eu w u nm dl A n c s a cm0) u → u.cell? ⟨w.heap.size + 5, 1, none⟩ = some (.int .i64 cm0.sp) := fun u H => H.c.cell 1
    have k2 : ∀ u, (fun u => Eu w u nm dl A n c s a cm0) u → u.cell? ⟨w.heap.size + 5, 2, none⟩ = some (.bool cm0.un) := fun u H => H.c.cell 2
    have k3 : ∀ u, (fun u => Eu w u nm dl A n c s a cm0) u → u.cell? ⟨w.heap.size + 5, 3, none⟩ = some (.int .i64 cm0.tr) := fun u H => H.c.cell 3
    have k4 : ∀ u, (fun u => Eu w u nm dl A n c s a cm0) u → u.cell? ⟨w.heap.size + 5, 4, none⟩ = some (.string cm0.pt) := fun u H => H.c.cell 4
    have k5 : ∀ u, (fun u => Eu w u nm dl A n c s a cm0) u → u.cell? ⟨w.heap.size + 5, 5, none⟩ = some (.string cm0.key) := fun u H => H.c.cell 5
    refine wp_region_held_drew (S := fun u => Eu w u nm dl A n c s a cm0) (by kernel_rfl) HS6 (fun hHeld => ?_)
    refine wpAnyH_take (i := 0) (oi := ⟨some 75, _, _, _, _, _⟩) (v := ?_) rfl (by kernel_rfl) (by kernel_rfl) (by kernel_rfl) (fun _ _ _ h => h) (Or.inl ⟨by rfl, ?_⟩) (by assumption) ?_
    rotate_left
    · (intro u hu; (try dsimp only at hu); go_simp; (try with_reducible rfl))
    (try simp only [Act.put, List.setIfInBounds_toArray, List.set_cons_zero, List.set_cons_succ])
    refine wpAnyH_take (i := 1) (oi := ⟨some 76, _, _, _, _, _⟩) (v := ?_) rfl (by kernel_rfl) (by kernel_rfl) (by kernel_rfl) (fun _ _ _ h => h) (Or.inl ⟨by rfl, ?_⟩) (by assumption) ?_
    rotate_left
    · (intro u hu; (try dsimp only at hu); go_simp; (try with_reducible rfl))
    (try simp only [Act.put, List.setIfInBounds_toArray, List.set_cons_zero, List.set_cons_succ])
    refine wpAnyH_take (i := 2) (oi := ⟨some 77, _, _, _, _, _⟩) (v := ?_) rfl (by kernel_rfl) (by kernel_rfl) (by kernel_rfl) (fun _ _ _ h => h) (Or.inl ⟨by rfl, ?_⟩) (by assumption) ?_
    rotate_left
    · (intro u hu; (try dsimp only at hu); go_simp; (try with_reducible rfl))
    (try simp only [Act.put, List.setIfInBounds_toArray, List.set_cons_zero, List.set_cons_succ])
    refine wpAnyH_ready (rs := [3]) (by kernel_rfl) (by simp) ?_
    refine AllReadyH.cons (o := ⟨none, _, _, _, _, _⟩) rfl (fun K hK => ?_) AllReadyH.nil
    rw [if_pos (by rfl)]
    obtain ⟨cs, hcs, hsz⟩ := HS6.q
    refine oper_store_row 26 _ _ rfl (w.heap.size + 3) 26 cs (s).arr rfl rfl hcs (sizeG _) hsz (oneG _) ?_
    refine hK.out _ _ ?_ (fun hHeld => ?_)
    · exact Eu.set3 HS6 _
    clear hK K hcs hsz
    (try simp only [Act.put])
    refine wpAnyH_ready (rs := [4]) (by kernel_rfl) (by simp) ?_
    refine AllReadyH.cons (o := ⟨none, _, _, _, _, _⟩) rfl (fun K hK => ?_) AllReadyH.nil
    rw [if_pos (by rfl)]
    obtain ⟨cs, hcs, hsz⟩ := (Eu.set3 HS6 _).k
    refine oper_store_row 34 _ _ rfl (w.heap.size + 4) 34 cs (cm0).arr rfl rfl hcs (sizeC _) hsz (oneC _) ?_
    refine hK.out _ _ ?_ (fun hHeld => ?_)
    · exact Eu.set4 (Eu.set3 HS6 _) _
    clear hK K hcs hsz
    (try simp only [Act.put])
    refine wpAnyH_take (i := 5) (oi := ⟨some 8, _, _, _, _, _⟩) (v := ?_) rfl (by kernel_rfl) (by kernel_rfl) (by kernel_rfl) (fun _ _ _ h => h) (Or.inl ⟨by rfl, ?_⟩) (by assumption) ?_
    rotate_left
    · (intro u hu; (try dsimp only at hu); go_simp; (try with_reducible rfl))
    (try simp only [Act.put, List.setIfInBounds_toArray, List.set_cons_zero, List.set_cons_succ])
    refine wpAnyH_done (by kernel_rfl) ?_ _
    go_wp2
    exact bodyPost_ret (res_sg_cm_tmp rfl _ _ (w.heap.size + 3) (w.heap.size + 4) s cm0 rfl rfl (Eu.rows HS6 s cm0).1 (Eu.rows HS6 s cm0).2.1) rfl ⟨rfl, (Eu.rows HS6 s cm0).2.2⟩
set_option maxRecDepth 100000 in
set_option maxHeartbeats 4000000 in
theorem tells1_any (hk : a.k = 1) : Calls Tryz.prog 8 #[.agg #[.string nm, .int .i64 dl, .slice A n c], .agg #[.int .i64 s.id, .string s.dn, .int .i64 s.st, .int .i64 s.ph, .int .i64 s.sp, .int .i64 s.tr, .bool s.out, .int .i64 s.at_, .int .i64 s.sk], .agg #[.int .i64 a.k, .int .i64 a.now, .int .i64 a.r.sg, .int .i64 a.r.sp, .bool a.r.un, .int .i64 a.r.tr, .bool a.r.good]] w fun e w' => e = .returned (.tuple #[.agg (doA nm dl ss s a).1.arr, .agg (doA nm dl ss s a).2.1.arr, .int .i64 (doA nm dl ss s a).2.2]) ∧ Below w.heap.size w w' := by
  have HR := Lib.hid (fun W (hW : Below w.heap.size w W) => rcheck14_any nm dl A n c ss s W (hd.on hW) a.now)
  have HM := Lib.hid (fun W (hW : Below w.heap.size w W) => rmay14_any nm dl A n c ss s W (hd.on hW) a.now)
  have hX : doA nm dl ss s a = emitA nm dl ss s a.now := by unfold doA; rw [if_pos (by omega)]
  have q0 : (a.k == 0) = false := by simp [hk]
  have q1 : (a.k == 1) = true := by simp [hk]
  by_cases h0 : refE nm dl ss s a.now = 0
  · have hr := refE_zero h0
    cases hm : mayC dl ss s a.now with
    | false =>
      have hmb : mayB nm dl ss s a.now = false := by unfold mayB; rw [hm, Bool.and_false]
      have hY : emitA nm dl ss s a.now = (s, cm0, 9) := by unfold emitA; rw [if_neg (by simpa using h0), if_pos hm]
      rw [h0] at HR
      rw [hmb] at HM
      rw [hX, hY]
      clear hX hY hr hd ht hid h0 hm hmb hk
      go_enter Tryz.func8, Tryz.ntmps8
      go_wp2_with (first
        | (go_at_call 26; (with_reducible refine (HR.out _ (b6 w _ _ _ _ _ _)).mono ?_); rintro e w1 ⟨rfl, hm⟩; have H1 := Lib.hid (Eu.of (eo6 (s := s) (a := a) rfl rfl hm)); clear hm; obtain ⟨d0, d1, d2⟩ := H1.out.e.cd; obtain ⟨c0, c1, c2, c3, c4, c5, c6, c7, c8⟩ := H1.out.e.cs; obtain ⟨a0, a1, a2, a3, a4, a5, a6⟩ := H1.out.ac)
        | (go_at_call 14; (with_reducible refine (HM.out _ H1.out.e.b).mono ?_); rintro e w2 ⟨rfl, hm⟩; have H2 := Lib.hid (H1.out.on hm); clear hm; obtain ⟨d0, d1, d2⟩ := H2.out.e.cd; obtain ⟨c0, c1, c2, c3, c4, c5, c6, c7, c8⟩ := H2.out.e.cs; obtain ⟨a0, a1, a2, a3, a4, a5, a6⟩ := H2.out.ac))
      have H6 := Lib.hid H2.out
      clear H1 H2 HR HM d0 d1 d2 c0 c1 c2 c3 c4 c5 c6 c7 c8 a0 a1 a2 a3 a4 a5 a6
      generalize w2 = W6 at *
      have HS6 : (fun u => Eu w u nm dl A n c s a cm0) W6.drew := H6.out.on (Below.drew (Below.refl _ _))
      have u0 : ∀ u, (fun u => Eu w u nm dl A n c s a cm0) u → u.cell? ⟨w.heap.size + 1, 0, none⟩ = some (.int .i64 s.id) := fun u H => H.e.s.cell 0
      have u1 : ∀ u, (fun u => Eu w u nm dl A n c s a cm0) u → u.cell? ⟨w.heap.size + 1, 1, none⟩ = some (.string s.dn) := fun u H => H.e.s.cell 1
      have u2 : ∀ u, (fun u => Eu w u nm dl A n c s a cm0) u → u.cell? ⟨w.heap.size + 1, 2, none⟩ = some (.int .i64 s.st) := fun u H => H.e.s.cell 2
      have u3 : ∀ u, (fun u => Eu w u nm dl A n c s a cm0) u → u.cell? ⟨w.heap.size + 1, 3, none⟩ = some (.int .i64 s.ph) := fun u H => H.e.s.cell 3
      have u4 : ∀ u, (fun u => Eu w u nm dl A n c s a cm0) u → u.cell? ⟨w.heap.size + 1, 4, none⟩ = some (.int .i64 s.sp) := fun u H => H.e.s.cell 4
      have u5 : ∀ u, (fun u => Eu w u nm dl A n c s a cm0) u → u.cell? ⟨w.heap.size + 1, 5, none⟩ = some (.int .i64 s.tr) := fun u H => H.e.s.cell 5
      have u6 : ∀ u, (fun u => Eu w u nm dl A n c s a cm0) u → u.cell? ⟨w.heap.size + 1, 6, none⟩ = some (.bool s.out) := fun u H => H.e.s.cell 6
      have u7 : ∀ u, (fun u => Eu w u nm dl A n c s a cm0) u → u.cell? ⟨w.heap.size + 1, 7, none⟩ = some (.int .i64 s.at_) := fun u H => H.e.s.cell 7
      have u8 : ∀ u, (fun u => Eu w u nm dl A n c s a cm0) u → u.cell? ⟨w.heap.size + 1, 8, none⟩ = some (.int .i64 s.sk) := fun u H => H.e.s.cell 8
      have k0 : ∀ u, (fun u => Eu w u nm dl A n c s a cm0) u → u.cell? ⟨w.heap.size + 5, 0, none⟩ = some (.int .i64 cm0.sg) := fun u H => H.c.cell 0
      have k1 : ∀ u, (fun u => Eu w u nm dl A n c s a cm0) u → u.cell? ⟨w.heap.size + 5, 1, none⟩ = some (.int .i64 cm0.sp) := fun u H => H.c.cell 1
      have k2 : ∀ u, (fun u => Eu w u nm dl A n c s a cm0) u → u.cell? ⟨w.heap.size + 5, 2, none⟩ = some (.bool cm0.un) := fun u H => H.c.cell 2
      have k3 : ∀ u, (fun u => Eu w u nm dl A n c s a cm0) u → u.cell? ⟨w.heap.size + 5, 3, none⟩ = some (.int .i64 cm0.tr) := fun u H => H.c.cell 3
      have k4 : ∀ u, (fun u => Eu w u nm dl A n c s a cm0) u → u.cell? ⟨w.heap.size + 5, 4, none⟩ = some (.string cm0.pt) := fun u H => H.c.cell 4
      have k5 : ∀ u, (fun u => Eu w u nm dl A n c s a cm0) u → u.cell? ⟨w.heap.size + 5, 5, none⟩ = some (.string cm0.key) := fun u H => H.c.cell 5
      refine wp_region_held_drew (S := fun u => Eu w u nm dl A n c s a cm0) (by kernel_rfl) HS6 (fun hHeld => ?_)
      refine wpAnyH_take (i := 0) (oi := ⟨some 75, _, _, _, _, _⟩) (v := ?_) rfl (by kernel_rfl) (by kernel_rfl) (by kernel_rfl) (fun _ _ _ h => h) (Or.inl ⟨by rfl, ?_⟩) (by assumption) ?_
      rotate_left
      · (intro u hu; (try dsimp only at hu); go_simp; (try with_reducible rfl))
      (try simp only [Act.put, List.setIfInBounds_toArray, List.set_cons_zero, List.set_cons_succ])
      refine wpAnyH_take (i := 1) (oi := ⟨some 76, _, _, _, _, _⟩) (v := ?_) rfl (by kernel_rfl) (by kernel_rfl) (by kernel_rfl) (fun _ _ _ h => h) (Or.inl ⟨by rfl, ?_⟩) (by assumption) ?_
      rotate_left
      · (intro u hu; (try dsimp only at hu); go_simp; (try with_reducible rfl))
      (try simp only [Act.put, List.setIfInBounds_toArray, List.set_cons_zero, List.set_cons_succ])
      refine wpAnyH_take (i := 2) (oi := ⟨some 77, _, _, _, _, _⟩) (v := ?_) rfl (by kernel_rfl) (by kernel_rfl) (by kernel_rfl) (fun _ _ _ h => h) (Or.inl ⟨by rfl, ?_⟩) (by assumption) ?_
      rotate_left
      · (intro u hu; (try dsimp only at hu); go_simp; (try with_reducible rfl))
      (try simp only [Act.put, List.setIfInBounds_toArray, List.set_cons_zero, List.set_cons_succ])
      refine wpAnyH_ready (rs := [3]) (by kernel_rfl) (by simp) ?_
      refine AllReadyH.cons (o := ⟨none, _, _, _, _, _⟩) rfl (fun K hK => ?_) AllReadyH.nil
      rw [if_pos (by rfl)]
      obtain ⟨cs, hcs, hsz⟩ := HS6.q
      refine oper_store_row 26 _ _ rfl (w.heap.size + 3) 26 cs (s).arr rfl rfl hcs (sizeG _) hsz (oneG _) ?_
      refine hK.out _ _ ?_ (fun hHeld => ?_)
      · exact Eu.set3 HS6 _
      clear hK K hcs hsz
      (try simp only [Act.put])
      refine wpAnyH_ready (rs := [4]) (by kernel_rfl) (by simp) ?_
      refine AllReadyH.cons (o := ⟨none, _, _, _, _, _⟩) rfl (fun K hK => ?_) AllReadyH.nil
      rw [if_pos (by rfl)]
      obtain ⟨cs, hcs, hsz⟩ := (Eu.set3 HS6 _).k
      refine oper_store_row 34 _ _ rfl (w.heap.size + 4) 34 cs (cm0).arr rfl rfl hcs (sizeC _) hsz (oneC _) ?_
      refine hK.out _ _ ?_ (fun hHeld => ?_)
      · exact Eu.set4 (Eu.set3 HS6 _) _
      clear hK K hcs hsz
      (try simp only [Act.put])
      refine wpAnyH_take (i := 5) (oi := ⟨some 8, _, _, _, _, _⟩) (v := ?_) rfl (by kernel_rfl) (by kernel_rfl) (by kernel_rfl) (fun _ _ _ h => h) (Or.inl ⟨by rfl, ?_⟩) (by assumption) ?_
      rotate_left
      · (intro u hu; (try dsimp only at hu); go_simp; (try with_reducible rfl))
      (try simp only [Act.put, List.setIfInBounds_toArray, List.set_cons_zero, List.set_cons_succ])
      refine wpAnyH_done (by kernel_rfl) ?_ _
      go_wp2
      exact bodyPost_ret (res_sg_cm_tmp rfl _ _ (w.heap.size + 3) (w.heap.size + 4) s cm0 rfl rfl (Eu.rows HS6 s cm0).1 (Eu.rows HS6 s cm0).2.1) rfl ⟨rfl, (Eu.rows HS6 s cm0).2.2⟩
    | true =>
      have hmb : mayB nm dl ss s a.now = true := by unfold mayB; rw [hm, decide_eq_true h0]; rfl
      have hm' := of_decide_eq_true hm
      have hpg := good_plan hr.1
      have htr : s.tr ≤ 1001 := by have := hpg.2.1; omega
      have hY : emitA nm dl ss s a.now = (emitS ss s a.now, emitC ss s, 0) := by unfold emitA; rw [if_neg (by simpa using h0), if_neg (by rw [hm]; simp)]
      have HE := Lib.hid (fun W (hW : Below w.heap.size w W) => remit_any nm dl A n c ss s W (hd.on hW) a.now hr.1 htr hid)
      rw [h0] at HR
      rw [hmb] at HM
      rw [hX, hY]
      generalize emitS ss s a.now = y1 at *
      generalize emitC ss s = y2 at *
      clear hX hY hr hd ht hid h0 hm hmb hm' hpg htr hk
      go_enter Tryz.func8, Tryz.ntmps8
      go_wp2_with (first
        | (go_at_call 26; (with_reducible refine (HR.out _ (b6 w _ _ _ _ _ _)).mono ?_); rintro e w1 ⟨rfl, hm⟩; have H1 := Lib.hid (Eu.of (eo6 (s := s) (a := a) rfl rfl hm)); clear hm; obtain ⟨d0, d1, d2⟩ := H1.out.e.cd; obtain ⟨c0, c1, c2, c3, c4, c5, c6, c7, c8⟩ := H1.out.e.cs; obtain ⟨a0, a1, a2, a3, a4, a5, a6⟩ := H1.out.ac)
        | (go_at_call 14; (with_reducible refine (HM.out _ H1.out.e.b).mono ?_); rintro e w2 ⟨rfl, hm⟩; have H2 := Lib.hid (H1.out.on hm); clear hm; obtain ⟨d0, d1, d2⟩ := H2.out.e.cd; obtain ⟨c0, c1, c2, c3, c4, c5, c6, c7, c8⟩ := H2.out.e.cs; obtain ⟨a0, a1, a2, a3, a4, a5, a6⟩ := H2.out.ac)
        | (go_at_call 27; (with_reducible refine (HE.out _ H2.out.e.b).mono ?_); rintro e w3 ⟨rfl, hm⟩; have H3 := Lib.hid (H2.out.on hm); clear hm)
        | (obtain ⟨cs, hcs, hsz⟩ := (Box.slot H3.out.e.s rfl : Slot _ _ _ 9); refine wpList_store_row rfl 26 _ _ rfl (w.heap.size + 1) 26 cs (y1).arr rfl rfl hcs (sizeG _) hsz (oneG _) ?_)
        | (obtain ⟨ds, hds, hdsz⟩ := (Box.slot (H3.out.setS y1).c rfl : Slot _ _ _ 6); refine wpList_store_row rfl 34 _ _ rfl (w.heap.size + 5) 34 ds (y2).arr rfl rfl hds (sizeC _) hdsz (oneC _) ?_))
      have H6 := Lib.hid ((H3.out.setS y1).setC y2)
      clear H1 H2 H3 HR HM HE d0 d1 d2 c0 c1 c2 c3 c4 c5 c6 c7 c8 a0 a1 a2 a3 a4 a5 a6
      generalize (w3.setRow (w.heap.size + 1) y1.arr).setRow (w.heap.size + 5) y2.arr = W6 at *
      have HS6 : (fun u => Eu w u nm dl A n c y1 a y2) W6.drew := H6.out.on (Below.drew (Below.refl _ _))
      have u0 : ∀ u, (fun u => Eu w u nm dl A n c y1 a y2) u → u.cell? ⟨w.heap.size + 1, 0, none⟩ = some (.int .i64 y1.id) := fun u H => H.e.s.cell 0
      have u1 : ∀ u, (fun u => Eu w u nm dl A n c y1 a y2) u → u.cell? ⟨w.heap.size + 1, 1, none⟩ = some (.string y1.dn) := fun u H => H.e.s.cell 1
      have u2 : ∀ u, (fun u => Eu w u nm dl A n c y1 a y2) u → u.cell? ⟨w.heap.size + 1, 2, none⟩ = some (.int .i64 y1.st) := fun u H => H.e.s.cell 2
      have u3 : ∀ u, (fun u => Eu w u nm dl A n c y1 a y2) u → u.cell? ⟨w.heap.size + 1, 3, none⟩ = some (.int .i64 y1.ph) := fun u H => H.e.s.cell 3
      have u4 : ∀ u, (fun u => Eu w u nm dl A n c y1 a y2) u → u.cell? ⟨w.heap.size + 1, 4, none⟩ = some (.int .i64 y1.sp) := fun u H => H.e.s.cell 4
      have u5 : ∀ u, (fun u => Eu w u nm dl A n c y1 a y2) u → u.cell? ⟨w.heap.size + 1, 5, none⟩ = some (.int .i64 y1.tr) := fun u H => H.e.s.cell 5
      have u6 : ∀ u, (fun u => Eu w u nm dl A n c y1 a y2) u → u.cell? ⟨w.heap.size + 1, 6, none⟩ = some (.bool y1.out) := fun u H => H.e.s.cell 6
      have u7 : ∀ u, (fun u => Eu w u nm dl A n c y1 a y2) u → u.cell? ⟨w.heap.size + 1, 7, none⟩ = some (.int .i64 y1.at_) := fun u H => H.e.s.cell 7
      have u8 : ∀ u, (fun u => Eu w u nm dl A n c y1 a y2) u → u.cell? ⟨w.heap.size + 1, 8, none⟩ = some (.int .i64 y1.sk) := fun u H => H.e.s.cell 8
      have k0 : ∀ u, (fun u => Eu w u nm dl A n c y1 a y2) u → u.cell? ⟨w.heap.size + 5, 0, none⟩ = some (.int .i64 y2.sg) := fun u H => H.c.cell 0
      have k1 : ∀ u, (fun u => Eu w u nm dl A n c y1 a y2) u → u.cell? ⟨w.heap.size + 5, 1, none⟩ = some (.int .i64 y2.sp) := fun u H => H.c.cell 1
      have k2 : ∀ u, (fun u => Eu w u nm dl A n c y1 a y2) u → u.cell? ⟨w.heap.size + 5, 2, none⟩ = some (.bool y2.un) := fun u H => H.c.cell 2
      have k3 : ∀ u, (fun u => Eu w u nm dl A n c y1 a y2) u → u.cell? ⟨w.heap.size + 5, 3, none⟩ = some (.int .i64 y2.tr) := fun u H => H.c.cell 3
      have k4 : ∀ u, (fun u => Eu w u nm dl A n c y1 a y2) u → u.cell? ⟨w.heap.size + 5, 4, none⟩ = some (.string y2.pt) := fun u H => H.c.cell 4
      have k5 : ∀ u, (fun u => Eu w u nm dl A n c y1 a y2) u → u.cell? ⟨w.heap.size + 5, 5, none⟩ = some (.string y2.key) := fun u H => H.c.cell 5
      refine wp_region_held_drew (S := fun u => Eu w u nm dl A n c y1 a y2) (by kernel_rfl) HS6 (fun hHeld => ?_)
      refine wpAnyH_take (i := 0) (oi := ⟨some 75, _, _, _, _, _⟩) (v := ?_) rfl (by kernel_rfl) (by kernel_rfl) (by kernel_rfl) (fun _ _ _ h => h) (Or.inl ⟨by rfl, ?_⟩) (by assumption) ?_
      rotate_left
      · (intro u hu; (try dsimp only at hu); go_simp; (try with_reducible rfl))
      (try simp only [Act.put, List.setIfInBounds_toArray, List.set_cons_zero, List.set_cons_succ])
      refine wpAnyH_take (i := 1) (oi := ⟨some 76, _, _, _, _, _⟩) (v := ?_) rfl (by kernel_rfl) (by kernel_rfl) (by kernel_rfl) (fun _ _ _ h => h) (Or.inl ⟨by rfl, ?_⟩) (by assumption) ?_
      rotate_left
      · (intro u hu; (try dsimp only at hu); go_simp; (try with_reducible rfl))
      (try simp only [Act.put, List.setIfInBounds_toArray, List.set_cons_zero, List.set_cons_succ])
      refine wpAnyH_take (i := 2) (oi := ⟨some 77, _, _, _, _, _⟩) (v := ?_) rfl (by kernel_rfl) (by kernel_rfl) (by kernel_rfl) (fun _ _ _ h => h) (Or.inl ⟨by rfl, ?_⟩) (by assumption) ?_
      rotate_left
      · (intro u hu; (try dsimp only at hu); go_simp; (try with_reducible rfl))
      (try simp only [Act.put, List.setIfInBounds_toArray, List.set_cons_zero, List.set_cons_succ])
      refine wpAnyH_ready (rs := [3]) (by kernel_rfl) (by simp) ?_
      refine AllReadyH.cons (o := ⟨none, _, _, _, _, _⟩) rfl (fun K hK => ?_) AllReadyH.nil
      rw [if_pos (by rfl)]
      obtain ⟨cs, hcs, hsz⟩ := HS6.q
      refine oper_store_row 26 _ _ rfl (w.heap.size + 3) 26 cs (y1).arr rfl rfl hcs (sizeG _) hsz (oneG _) ?_
      refine hK.out _ _ ?_ (fun hHeld => ?_)
      · exact Eu.set3 HS6 _
      clear hK K hcs hsz
      (try simp only [Act.put])
      refine wpAnyH_ready (rs := [4]) (by kernel_rfl) (by simp) ?_
      refine AllReadyH.cons (o := ⟨none, _, _, _, _, _⟩) rfl (fun K hK => ?_) AllReadyH.nil
      rw [if_pos (by rfl)]
      obtain ⟨cs, hcs, hsz⟩ := (Eu.set3 HS6 _).k
      refine oper_store_row 34 _ _ rfl (w.heap.size + 4) 34 cs (y2).arr rfl rfl hcs (sizeC _) hsz (oneC _) ?_
      refine hK.out _ _ ?_ (fun hHeld => ?_)
      · exact Eu.set4 (Eu.set3 HS6 _) _
      clear hK K hcs hsz
      (try simp only [Act.put])
      refine wpAnyH_take (i := 5) (oi := ⟨some 8, _, _, _, _, _⟩) (v := ?_) rfl (by kernel_rfl) (by kernel_rfl) (by kernel_rfl) (fun _ _ _ h => h) (Or.inl ⟨by rfl, ?_⟩) (by assumption) ?_
      rotate_left
      · (intro u hu; (try dsimp only at hu); go_simp; (try with_reducible rfl))
      (try simp only [Act.put, List.setIfInBounds_toArray, List.set_cons_zero, List.set_cons_succ])
      refine wpAnyH_done (by kernel_rfl) ?_ _
      go_wp2
      exact bodyPost_ret (res_sg_cm_tmp rfl _ _ (w.heap.size + 3) (w.heap.size + 4) y1 y2 rfl rfl (Eu.rows HS6 y1 y2).1 (Eu.rows HS6 y1 y2).2.1) rfl ⟨rfl, (Eu.rows HS6 y1 y2).2.2⟩
  · have g0 : (refE nm dl ss s a.now == 0) = false := by simpa using h0
    have hY : emitA nm dl ss s a.now = (s, cm0, refE nm dl ss s a.now) := by unfold emitA; rw [if_pos (by simpa using h0)]
    rw [hX, hY]
    generalize refE nm dl ss s a.now = r at *
    clear hX hY hd ht hid h0 HM hk
    go_enter Tryz.func8, Tryz.ntmps8
    go_wp2_with (first
      | (go_at_call 26; (with_reducible refine (HR.out _ (b6 w _ _ _ _ _ _)).mono ?_); rintro e w1 ⟨rfl, hm⟩; have H1 := Lib.hid (Eu.of (eo6 (s := s) (a := a) rfl rfl hm)); clear hm; obtain ⟨d0, d1, d2⟩ := H1.out.e.cd; obtain ⟨c0, c1, c2, c3, c4, c5, c6, c7, c8⟩ := H1.out.e.cs; obtain ⟨a0, a1, a2, a3, a4, a5, a6⟩ := H1.out.ac))
    have H6 := Lib.hid H1.out
    clear H1 HR d0 d1 d2 c0 c1 c2 c3 c4 c5 c6 c7 c8 a0 a1 a2 a3 a4 a5 a6
    generalize w1 = W6 at *
    have HS6 : (fun u => Eu w u nm dl A n c s a cm0) W6.drew := H6.out.on (Below.drew (Below.refl _ _))
    have u0 : ∀ u, (fun u => Eu w u nm dl A n c s a cm0) u → u.cell? ⟨w.heap.size + 1, 0, none⟩ = some (.int .i64 s.id) := fun u H => H.e.s.cell 0
    have u1 : ∀ u, (fun u => Eu w u nm dl A n c s a cm0) u → u.cell? ⟨w.heap.size + 1, 1, none⟩ = some (.string s.dn) := fun u H => H.e.s.cell 1
    have u2 : ∀ u, (fun u => Eu w u nm dl A n c s a cm0) u → u.cell? ⟨w.heap.size + 1, 2, none⟩ = some (.int .i64 s.st) := fun u H => H.e.s.cell 2
    have u3 : ∀ u, (fun u => Eu w u nm dl A n c s a cm0) u → u.cell? ⟨w.heap.size + 1, 3, none⟩ = some (.int .i64 s.ph) := fun u H => H.e.s.cell 3
    have u4 : ∀ u, (fun u => Eu w u nm dl A n c s a cm0) u → u.cell? ⟨w.heap.size + 1, 4, none⟩ = some (.int .i64 s.sp) := fun u H => H.e.s.cell 4
    have u5 : ∀ u, (fun u => Eu w u nm dl A n c s a cm0) u → u.cell? ⟨w.heap.size + 1, 5, none⟩ = some (.int .i64 s.tr) := fun u H => H.e.s.cell 5
    have u6 : ∀ u, (fun u => Eu w u nm dl A n c s a cm0) u → u.cell? ⟨w.heap.size + 1, 6, none⟩ = some (.bool s.out) := fun u H => H.e.s.cell 6
    have u7 : ∀ u, (fun u => Eu w u nm dl A n c s a cm0) u → u.cell? ⟨w.heap.size + 1, 7, none⟩ = some (.int .i64 s.at_) := fun u H => H.e.s.cell 7
    have u8 : ∀ u, (fun u => Eu w u nm dl A n c s a cm0) u → u.cell? ⟨w.heap.size + 1, 8, none⟩ = some (.int .i64 s.sk) := fun u H => H.e.s.cell 8
    have k0 : ∀ u, (fun u => Eu w u nm dl A n c s a cm0) u → u.cell? ⟨w.heap.size + 5, 0, none⟩ = some (.int .i64 cm0.sg) := fun u H => H.c.cell 0
    have k1 : ∀ u, (fun u => Eu w u nm dl A n c s a cm0) u → u.cell? ⟨w.heap.size + 5, 1, none⟩ = some (.int .i64 cm0.sp) := fun u H => H.c.cell 1
    have k2 : ∀ u, (fun u => Eu w u nm dl A n c s a cm0) u → u.cell? ⟨w.heap.size + 5, 2, none⟩ = some (.bool cm0.un) := fun u H => H.c.cell 2
    have k3 : ∀ u, (fun u => Eu w u nm dl A n c s a cm0) u → u.cell? ⟨w.heap.size + 5, 3, none⟩ = some (.int .i64 cm0.tr) := fun u H => H.c.cell 3
    have k4 : ∀ u, (fun u => Eu w u nm dl A n c s a cm0) u → u.cell? ⟨w.heap.size + 5, 4, none⟩ = some (.string cm0.pt) := fun u H => H.c.cell 4
    have k5 : ∀ u, (fun u => Eu w u nm dl A n c s a cm0) u → u.cell? ⟨w.heap.size + 5, 5, none⟩ = some (.string cm0.key) := fun u H => H.c.cell 5
    refine wp_region_held_drew (S := fun u => Eu w u nm dl A n c s a cm0) (by kernel_rfl) HS6 (fun hHeld => ?_)
    refine wpAnyH_take (i := 0) (oi := ⟨some 75, _, _, _, _, _⟩) (v := ?_) rfl (by kernel_rfl) (by kernel_rfl) (by kernel_rfl) (fun _ _ _ h => h) (Or.inl ⟨by rfl, ?_⟩) (by assumption) ?_
    rotate_left
    · (intro u hu; (try dsimp only at hu); go_simp; (try with_reducible rfl))
    (try simp only [Act.put, List.setIfInBounds_toArray, List.set_cons_zero, List.set_cons_succ])
    refine wpAnyH_take (i := 1) (oi := ⟨some 76, _, _, _, _, _⟩) (v := ?_) rfl (by kernel_rfl) (by kernel_rfl) (by kernel_rfl) (fun _ _ _ h => h) (Or.inl ⟨by rfl, ?_⟩) (by assumption) ?_
    rotate_left
    · (intro u hu; (try dsimp only at hu); go_simp; (try with_reducible rfl))
    (try simp only [Act.put, List.setIfInBounds_toArray, List.set_cons_zero, List.set_cons_succ])
    refine wpAnyH_take (i := 2) (oi := ⟨some 77, _, _, _, _, _⟩) (v := ?_) rfl (by kernel_rfl) (by kernel_rfl) (by kernel_rfl) (fun _ _ _ h => h) (Or.inl ⟨by rfl, ?_⟩) (by assumption) ?_
    rotate_left
    · (intro u hu; (try dsimp only at hu); go_simp; (try with_reducible rfl))
    (try simp only [Act.put, List.setIfInBounds_toArray, List.set_cons_zero, List.set_cons_succ])
    refine wpAnyH_ready (rs := [3]) (by kernel_rfl) (by simp) ?_
    refine AllReadyH.cons (o := ⟨none, _, _, _, _, _⟩) rfl (fun K hK => ?_) AllReadyH.nil
    rw [if_pos (by rfl)]
    obtain ⟨cs, hcs, hsz⟩ := HS6.q
    refine oper_store_row 26 _ _ rfl (w.heap.size + 3) 26 cs (s).arr rfl rfl hcs (sizeG _) hsz (oneG _) ?_
    refine hK.out _ _ ?_ (fun hHeld => ?_)
    · exact Eu.set3 HS6 _
    clear hK K hcs hsz
    (try simp only [Act.put])
    refine wpAnyH_ready (rs := [4]) (by kernel_rfl) (by simp) ?_
    refine AllReadyH.cons (o := ⟨none, _, _, _, _, _⟩) rfl (fun K hK => ?_) AllReadyH.nil
    rw [if_pos (by rfl)]
    obtain ⟨cs, hcs, hsz⟩ := (Eu.set3 HS6 _).k
    refine oper_store_row 34 _ _ rfl (w.heap.size + 4) 34 cs (cm0).arr rfl rfl hcs (sizeC _) hsz (oneC _) ?_
    refine hK.out _ _ ?_ (fun hHeld => ?_)
    · exact Eu.set4 (Eu.set3 HS6 _) _
    clear hK K hcs hsz
    (try simp only [Act.put])
    refine wpAnyH_take (i := 5) (oi := ⟨some 8, _, _, _, _, _⟩) (v := ?_) rfl (by kernel_rfl) (by kernel_rfl) (by kernel_rfl) (fun _ _ _ h => h) (Or.inl ⟨by rfl, ?_⟩) (by assumption) ?_
    rotate_left
    · (intro u hu; (try dsimp only at hu); go_simp; (try with_reducible rfl))
    (try simp only [Act.put, List.setIfInBounds_toArray, List.set_cons_zero, List.set_cons_succ])
    refine wpAnyH_done (by kernel_rfl) ?_ _
    go_wp2
    exact bodyPost_ret (res_sg_cm_tmp rfl _ _ (w.heap.size + 3) (w.heap.size + 4) s cm0 rfl rfl (Eu.rows HS6 s cm0).1 (Eu.rows HS6 s cm0).2.1) rfl ⟨rfl, (Eu.rows HS6 s cm0).2.2⟩
set_option maxRecDepth 100000 in
set_option maxHeartbeats 4000000 in
theorem tells2_any (hk : a.k = 2) : Calls Tryz.prog 8 #[.agg #[.string nm, .int .i64 dl, .slice A n c], .agg #[.int .i64 s.id, .string s.dn, .int .i64 s.st, .int .i64 s.ph, .int .i64 s.sp, .int .i64 s.tr, .bool s.out, .int .i64 s.at_, .int .i64 s.sk], .agg #[.int .i64 a.k, .int .i64 a.now, .int .i64 a.r.sg, .int .i64 a.r.sp, .bool a.r.un, .int .i64 a.r.tr, .bool a.r.good]] w fun e w' => e = .returned (.tuple #[.agg (doA nm dl ss s a).1.arr, .agg (doA nm dl ss s a).2.1.arr, .int .i64 (doA nm dl ss s a).2.2]) ∧ Below w.heap.size w w' := by
  have HR := Lib.hid (fun W (hW : Below w.heap.size w W) => rcheck14_any nm dl A n c ss s W (hd.on hW) a.now)
  have HM := Lib.hid (fun W (hW : Below w.heap.size w W) => rmay14_any nm dl A n c ss s W (hd.on hW) a.now)
  have hX : doA nm dl ss s a = emitA nm dl ss s a.now := by unfold doA; rw [if_pos (by omega)]
  have q0 : (a.k == 0) = false := by simp [hk]
  have q1 : (a.k == 1) = false := by simp [hk]
  have q2 : (a.k == 2) = true := by simp [hk]
  by_cases h0 : refE nm dl ss s a.now = 0
  · have hr := refE_zero h0
    cases hm : mayC dl ss s a.now with
    | false =>
      have hmb : mayB nm dl ss s a.now = false := by unfold mayB; rw [hm, Bool.and_false]
      have hY : emitA nm dl ss s a.now = (s, cm0, 9) := by unfold emitA; rw [if_neg (by simpa using h0), if_pos hm]
      rw [h0] at HR
      rw [hmb] at HM
      rw [hX, hY]
      clear hX hY hr hd ht hid h0 hm hmb hk
      go_enter Tryz.func8, Tryz.ntmps8
      go_wp2_with (first
        | (go_at_call 26; (with_reducible refine (HR.out _ (b6 w _ _ _ _ _ _)).mono ?_); rintro e w1 ⟨rfl, hm⟩; have H1 := Lib.hid (Eu.of (eo6 (s := s) (a := a) rfl rfl hm)); clear hm; obtain ⟨d0, d1, d2⟩ := H1.out.e.cd; obtain ⟨c0, c1, c2, c3, c4, c5, c6, c7, c8⟩ := H1.out.e.cs; obtain ⟨a0, a1, a2, a3, a4, a5, a6⟩ := H1.out.ac)
        | (go_at_call 14; (with_reducible refine (HM.out _ H1.out.e.b).mono ?_); rintro e w2 ⟨rfl, hm⟩; have H2 := Lib.hid (H1.out.on hm); clear hm; obtain ⟨d0, d1, d2⟩ := H2.out.e.cd; obtain ⟨c0, c1, c2, c3, c4, c5, c6, c7, c8⟩ := H2.out.e.cs; obtain ⟨a0, a1, a2, a3, a4, a5, a6⟩ := H2.out.ac))
      have H6 := Lib.hid H2.out
      clear H1 H2 HR HM d0 d1 d2 c0 c1 c2 c3 c4 c5 c6 c7 c8 a0 a1 a2 a3 a4 a5 a6
      generalize w2 = W6 at *
      have HS6 : (fun u => Eu w u nm dl A n c s a cm0) W6.drew := H6.out.on (Below.drew (Below.refl _ _))
      have u0 : ∀ u, (fun u => Eu w u nm dl A n c s a cm0) u → u.cell? ⟨w.heap.size + 1, 0, none⟩ = some (.int .i64 s.id) := fun u H => H.e.s.cell 0
      have u1 : ∀ u, (fun u => Eu w u nm dl A n c s a cm0) u → u.cell? ⟨w.heap.size + 1, 1, none⟩ = some (.string s.dn) := fun u H => H.e.s.cell 1
      have u2 : ∀ u, (fun u => Eu w u nm dl A n c s a cm0) u → u.cell? ⟨w.heap.size + 1, 2, none⟩ = some (.int .i64 s.st) := fun u H => H.e.s.cell 2
      have u3 : ∀ u, (fun u => Eu w u nm dl A n c s a cm0) u → u.cell? ⟨w.heap.size + 1, 3, none⟩ = some (.int .i64 s.ph) := fun u H => H.e.s.cell 3
      have u4 : ∀ u, (fun u => Eu w u nm dl A n c s a cm0) u → u.cell? ⟨w.heap.size + 1, 4, none⟩ = some (.int .i64 s.sp) := fun u H => H.e.s.cell 4
      have u5 : ∀ u, (fun u => Eu w u nm dl A n c s a cm0) u → u.cell? ⟨w.heap.size + 1, 5, none⟩ = some (.int .i64 s.tr) := fun u H => H.e.s.cell 5
      have u6 : ∀ u, (fun u => Eu w u nm dl A n c s a cm0) u → u.cell? ⟨w.heap.size + 1, 6, none⟩ = some (.bool s.out) := fun u H => H.e.s.cell 6
      have u7 : ∀ u, (fun u => Eu w u nm dl A n c s a cm0) u → u.cell? ⟨w.heap.size + 1, 7, none⟩ = some (.int .i64 s.at_) := fun u H => H.e.s.cell 7
      have u8 : ∀ u, (fun u => Eu w u nm dl A n c s a cm0) u → u.cell? ⟨w.heap.size + 1, 8, none⟩ = some (.int .i64 s.sk) := fun u H => H.e.s.cell 8
      have k0 : ∀ u, (fun u => Eu w u nm dl A n c s a cm0) u → u.cell? ⟨w.heap.size + 5, 0, none⟩ = some (.int .i64 cm0.sg) := fun u H => H.c.cell 0
      have k1 : ∀ u, (fun u => Eu w u nm dl A n c s a cm0) u → u.cell? ⟨w.heap.size + 5, 1, none⟩ = some (.int .i64 cm0.sp) := fun u H => H.c.cell 1
      have k2 : ∀ u, (fun u => Eu w u nm dl A n c s a cm0) u → u.cell? ⟨w.heap.size + 5, 2, none⟩ = some (.bool cm0.un) := fun u H => H.c.cell 2
      have k3 : ∀ u, (fun u => Eu w u nm dl A n c s a cm0) u → u.cell? ⟨w.heap.size + 5, 3, none⟩ = some (.int .i64 cm0.tr) := fun u H => H.c.cell 3
      have k4 : ∀ u, (fun u => Eu w u nm dl A n c s a cm0) u → u.cell? ⟨w.heap.size + 5, 4, none⟩ = some (.string cm0.pt) := fun u H => H.c.cell 4
      have k5 : ∀ u, (fun u => Eu w u nm dl A n c s a cm0) u → u.cell? ⟨w.heap.size + 5, 5, none⟩ = some (.string cm0.key) := fun u H => H.c.cell 5
      refine wp_region_held_drew (S := fun u => Eu w u nm dl A n c s a cm0) (by kernel_rfl) HS6 (fun hHeld => ?_)
      refine wpAnyH_take (i := 0) (oi := ⟨some 75, _, _, _, _, _⟩) (v := ?_) rfl (by kernel_rfl) (by kernel_rfl) (by kernel_rfl) (fun _ _ _ h => h) (Or.inl ⟨by rfl, ?_⟩) (by assumption) ?_
      rotate_left
      · (intro u hu; (try dsimp only at hu); go_simp; (try with_reducible rfl))
      (try simp only [Act.put, List.setIfInBounds_toArray, List.set_cons_zero, List.set_cons_succ])
      refine wpAnyH_take (i := 1) (oi := ⟨some 76, _, _, _, _, _⟩) (v := ?_) rfl (by kernel_rfl) (by kernel_rfl) (by kernel_rfl) (fun _ _ _ h => h) (Or.inl ⟨by rfl, ?_⟩) (by assumption) ?_
      rotate_left
      · (intro u hu; (try dsimp only at hu); go_simp; (try with_reducible rfl))
      (try simp only [Act.put, List.setIfInBounds_toArray, List.set_cons_zero, List.set_cons_succ])
      refine wpAnyH_take (i := 2) (oi := ⟨some 77, _, _, _, _, _⟩) (v := ?_) rfl (by kernel_rfl) (by kernel_rfl) (by kernel_rfl) (fun _ _ _ h => h) (Or.inl ⟨by rfl, ?_⟩) (by assumption) ?_
      rotate_left
      · (intro u hu; (try dsimp only at hu); go_simp; (try with_reducible rfl))
      (try simp only [Act.put, List.setIfInBounds_toArray, List.set_cons_zero, List.set_cons_succ])
      refine wpAnyH_ready (rs := [3]) (by kernel_rfl) (by simp) ?_
      refine AllReadyH.cons (o := ⟨none, _, _, _, _, _⟩) rfl (fun K hK => ?_) AllReadyH.nil
      rw [if_pos (by rfl)]
      obtain ⟨cs, hcs, hsz⟩ := HS6.q
      refine oper_store_row 26 _ _ rfl (w.heap.size + 3) 26 cs (s).arr rfl rfl hcs (sizeG _) hsz (oneG _) ?_
      refine hK.out _ _ ?_ (fun hHeld => ?_)
      · exact Eu.set3 HS6 _
      clear hK K hcs hsz
      (try simp only [Act.put])
      refine wpAnyH_ready (rs := [4]) (by kernel_rfl) (by simp) ?_
      refine AllReadyH.cons (o := ⟨none, _, _, _, _, _⟩) rfl (fun K hK => ?_) AllReadyH.nil
      rw [if_pos (by rfl)]
      obtain ⟨cs, hcs, hsz⟩ := (Eu.set3 HS6 _).k
      refine oper_store_row 34 _ _ rfl (w.heap.size + 4) 34 cs (cm0).arr rfl rfl hcs (sizeC _) hsz (oneC _) ?_
      refine hK.out _ _ ?_ (fun hHeld => ?_)
      · exact Eu.set4 (Eu.set3 HS6 _) _
      clear hK K hcs hsz
      (try simp only [Act.put])
      refine wpAnyH_take (i := 5) (oi := ⟨some 8, _, _, _, _, _⟩) (v := ?_) rfl (by kernel_rfl) (by kernel_rfl) (by kernel_rfl) (fun _ _ _ h => h) (Or.inl ⟨by rfl, ?_⟩) (by assumption) ?_
      rotate_left
      · (intro u hu; (try dsimp only at hu); go_simp; (try with_reducible rfl))
      (try simp only [Act.put, List.setIfInBounds_toArray, List.set_cons_zero, List.set_cons_succ])
      refine wpAnyH_done (by kernel_rfl) ?_ _
      go_wp2
      exact bodyPost_ret (res_sg_cm_tmp rfl _ _ (w.heap.size + 3) (w.heap.size + 4) s cm0 rfl rfl (Eu.rows HS6 s cm0).1 (Eu.rows HS6 s cm0).2.1) rfl ⟨rfl, (Eu.rows HS6 s cm0).2.2⟩
    | true =>
      have hmb : mayB nm dl ss s a.now = true := by unfold mayB; rw [hm, decide_eq_true h0]; rfl
      have hm' := of_decide_eq_true hm
      have hpg := good_plan hr.1
      have htr : s.tr ≤ 1001 := by have := hpg.2.1; omega
      have hY : emitA nm dl ss s a.now = (emitS ss s a.now, emitC ss s, 0) := by unfold emitA; rw [if_neg (by simpa using h0), if_neg (by rw [hm]; simp)]
      have HE := Lib.hid (fun W (hW : Below w.heap.size w W) => remit_any nm dl A n c ss s W (hd.on hW) a.now hr.1 htr hid)
      rw [h0] at HR
      rw [hmb] at HM
      rw [hX, hY]
      generalize emitS ss s a.now = y1 at *
      generalize emitC ss s = y2 at *
      clear hX hY hr hd ht hid h0 hm hmb hm' hpg htr hk
      go_enter Tryz.func8, Tryz.ntmps8
      go_wp2_with (first
        | (go_at_call 26; (with_reducible refine (HR.out _ (b6 w _ _ _ _ _ _)).mono ?_); rintro e w1 ⟨rfl, hm⟩; have H1 := Lib.hid (Eu.of (eo6 (s := s) (a := a) rfl rfl hm)); clear hm; obtain ⟨d0, d1, d2⟩ := H1.out.e.cd; obtain ⟨c0, c1, c2, c3, c4, c5, c6, c7, c8⟩ := H1.out.e.cs; obtain ⟨a0, a1, a2, a3, a4, a5, a6⟩ := H1.out.ac)
        | (go_at_call 14; (with_reducible refine (HM.out _ H1.out.e.b).mono ?_); rintro e w2 ⟨rfl, hm⟩; have H2 := Lib.hid (H1.out.on hm); clear hm; obtain ⟨d0, d1, d2⟩ := H2.out.e.cd; obtain ⟨c0, c1, c2, c3, c4, c5, c6, c7, c8⟩ := H2.out.e.cs; obtain ⟨a0, a1, a2, a3, a4, a5, a6⟩ := H2.out.ac)
        | (go_at_call 27; (with_reducible refine (HE.out _ H2.out.e.b).mono ?_); rintro e w3 ⟨rfl, hm⟩; have H3 := Lib.hid (H2.out.on hm); clear hm)
        | (obtain ⟨cs, hcs, hsz⟩ := (Box.slot H3.out.e.s rfl : Slot _ _ _ 9); refine wpList_store_row rfl 26 _ _ rfl (w.heap.size + 1) 26 cs (y1).arr rfl rfl hcs (sizeG _) hsz (oneG _) ?_)
        | (obtain ⟨ds, hds, hdsz⟩ := (Box.slot (H3.out.setS y1).c rfl : Slot _ _ _ 6); refine wpList_store_row rfl 34 _ _ rfl (w.heap.size + 5) 34 ds (y2).arr rfl rfl hds (sizeC _) hdsz (oneC _) ?_))
      have H6 := Lib.hid ((H3.out.setS y1).setC y2)
      clear H1 H2 H3 HR HM HE d0 d1 d2 c0 c1 c2 c3 c4 c5 c6 c7 c8 a0 a1 a2 a3 a4 a5 a6
      generalize (w3.setRow (w.heap.size + 1) y1.arr).setRow (w.heap.size + 5) y2.arr = W6 at *
      have HS6 : (fun u => Eu w u nm dl A n c y1 a y2) W6.drew := H6.out.on (Below.drew (Below.refl _ _))
      have u0 : ∀ u, (fun u => Eu w u nm dl A n c y1 a y2) u → u.cell? ⟨w.heap.size + 1, 0, none⟩ = some (.int .i64 y1.id) := fun u H => H.e.s.cell 0
      have u1 : ∀ u, (fun u => Eu w u nm dl A n c y1 a y2) u → u.cell? ⟨w.heap.size + 1, 1, none⟩ = some (.string y1.dn) := fun u H => H.e.s.cell 1
      have u2 : ∀ u, (fun u => Eu w u nm dl A n c y1 a y2) u → u.cell? ⟨w.heap.size + 1, 2, none⟩ = some (.int .i64 y1.st) := fun u H => H.e.s.cell 2
      have u3 : ∀ u, (fun u => Eu w u nm dl A n c y1 a y2) u → u.cell? ⟨w.heap.size + 1, 3, none⟩ = some (.int .i64 y1.ph) := fun u H => H.e.s.cell 3
      have u4 : ∀ u, (fun u => Eu w u nm dl A n c y1 a y2) u → u.cell? ⟨w.heap.size + 1, 4, none⟩ = some (.int .i64 y1.sp) := fun u H => H.e.s.cell 4
      have u5 : ∀ u, (fun u => Eu w u nm dl A n c y1 a y2) u → u.cell? ⟨w.heap.size + 1, 5, none⟩ = some (.int .i64 y1.tr) := fun u H => H.e.s.cell 5
      have u6 : ∀ u, (fun u => Eu w u nm dl A n c y1 a y2) u → u.cell? ⟨w.heap.size + 1, 6, none⟩ = some (.bool y1.out) := fun u H => H.e.s.cell 6
      have u7 : ∀ u, (fun u => Eu w u nm dl A n c y1 a y2) u → u.cell? ⟨w.heap.size + 1, 7, none⟩ = some (.int .i64 y1.at_) := fun u H => H.e.s.cell 7
      have u8 : ∀ u, (fun u => Eu w u nm dl A n c y1 a y2) u → u.cell? ⟨w.heap.size + 1, 8, none⟩ = some (.int .i64 y1.sk) := fun u H => H.e.s.cell 8
      have k0 : ∀ u, (fun u => Eu w u nm dl A n c y1 a y2) u → u.cell? ⟨w.heap.size + 5, 0, none⟩ = some (.int .i64 y2.sg) := fun u H => H.c.cell 0
      have k1 : ∀ u, (fun u => Eu w u nm dl A n c y1 a y2) u → u.cell? ⟨w.heap.size + 5, 1, none⟩ = some (.int .i64 y2.sp) := fun u H => H.c.cell 1
      have k2 : ∀ u, (fun u => Eu w u nm dl A n c y1 a y2) u → u.cell? ⟨w.heap.size + 5, 2, none⟩ = some (.bool y2.un) := fun u H => H.c.cell 2
      have k3 : ∀ u, (fun u => Eu w u nm dl A n c y1 a y2) u → u.cell? ⟨w.heap.size + 5, 3, none⟩ = some (.int .i64 y2.tr) := fun u H => H.c.cell 3
      have k4 : ∀ u, (fun u => Eu w u nm dl A n c y1 a y2) u → u.cell? ⟨w.heap.size + 5, 4, none⟩ = some (.string y2.pt) := fun u H => H.c.cell 4
      have k5 : ∀ u, (fun u => Eu w u nm dl A n c y1 a y2) u → u.cell? ⟨w.heap.size + 5, 5, none⟩ = some (.string y2.key) := fun u H => H.c.cell 5
      refine wp_region_held_drew (S := fun u => Eu w u nm dl A n c y1 a y2) (by kernel_rfl) HS6 (fun hHeld => ?_)
      refine wpAnyH_take (i := 0) (oi := ⟨some 75, _, _, _, _, _⟩) (v := ?_) rfl (by kernel_rfl) (by kernel_rfl) (by kernel_rfl) (fun _ _ _ h => h) (Or.inl ⟨by rfl, ?_⟩) (by assumption) ?_
      rotate_left
      · (intro u hu; (try dsimp only at hu); go_simp; (try with_reducible rfl))
      (try simp only [Act.put, List.setIfInBounds_toArray, List.set_cons_zero, List.set_cons_succ])
      refine wpAnyH_take (i := 1) (oi := ⟨some 76, _, _, _, _, _⟩) (v := ?_) rfl (by kernel_rfl) (by kernel_rfl) (by kernel_rfl) (fun _ _ _ h => h) (Or.inl ⟨by rfl, ?_⟩) (by assumption) ?_
      rotate_left
      · (intro u hu; (try dsimp only at hu); go_simp; (try with_reducible rfl))
      (try simp only [Act.put, List.setIfInBounds_toArray, List.set_cons_zero, List.set_cons_succ])
      refine wpAnyH_take (i := 2) (oi := ⟨some 77, _, _, _, _, _⟩) (v := ?_) rfl (by kernel_rfl) (by kernel_rfl) (by kernel_rfl) (fun _ _ _ h => h) (Or.inl ⟨by rfl, ?_⟩) (by assumption) ?_
      rotate_left
      · (intro u hu; (try dsimp only at hu); go_simp; (try with_reducible rfl))
      (try simp only [Act.put, List.setIfInBounds_toArray, List.set_cons_zero, List.set_cons_succ])
      refine wpAnyH_ready (rs := [3]) (by kernel_rfl) (by simp) ?_
      refine AllReadyH.cons (o := ⟨none, _, _, _, _, _⟩) rfl (fun K hK => ?_) AllReadyH.nil
      rw [if_pos (by rfl)]
      obtain ⟨cs, hcs, hsz⟩ := HS6.q
      refine oper_store_row 26 _ _ rfl (w.heap.size + 3) 26 cs (y1).arr rfl rfl hcs (sizeG _) hsz (oneG _) ?_
      refine hK.out _ _ ?_ (fun hHeld => ?_)
      · exact Eu.set3 HS6 _
      clear hK K hcs hsz
      (try simp only [Act.put])
      refine wpAnyH_ready (rs := [4]) (by kernel_rfl) (by simp) ?_
      refine AllReadyH.cons (o := ⟨none, _, _, _, _, _⟩) rfl (fun K hK => ?_) AllReadyH.nil
      rw [if_pos (by rfl)]
      obtain ⟨cs, hcs, hsz⟩ := (Eu.set3 HS6 _).k
      refine oper_store_row 34 _ _ rfl (w.heap.size + 4) 34 cs (y2).arr rfl rfl hcs (sizeC _) hsz (oneC _) ?_
      refine hK.out _ _ ?_ (fun hHeld => ?_)
      · exact Eu.set4 (Eu.set3 HS6 _) _
      clear hK K hcs hsz
      (try simp only [Act.put])
      refine wpAnyH_take (i := 5) (oi := ⟨some 8, _, _, _, _, _⟩) (v := ?_) rfl (by kernel_rfl) (by kernel_rfl) (by kernel_rfl) (fun _ _ _ h => h) (Or.inl ⟨by rfl, ?_⟩) (by assumption) ?_
      rotate_left
      · (intro u hu; (try dsimp only at hu); go_simp; (try with_reducible rfl))
      (try simp only [Act.put, List.setIfInBounds_toArray, List.set_cons_zero, List.set_cons_succ])
      refine wpAnyH_done (by kernel_rfl) ?_ _
      go_wp2
      exact bodyPost_ret (res_sg_cm_tmp rfl _ _ (w.heap.size + 3) (w.heap.size + 4) y1 y2 rfl rfl (Eu.rows HS6 y1 y2).1 (Eu.rows HS6 y1 y2).2.1) rfl ⟨rfl, (Eu.rows HS6 y1 y2).2.2⟩
  · have g0 : (refE nm dl ss s a.now == 0) = false := by simpa using h0
    have hY : emitA nm dl ss s a.now = (s, cm0, refE nm dl ss s a.now) := by unfold emitA; rw [if_pos (by simpa using h0)]
    rw [hX, hY]
    generalize refE nm dl ss s a.now = r at *
    clear hX hY hd ht hid h0 HM hk
    go_enter Tryz.func8, Tryz.ntmps8
    go_wp2_with (first
      | (go_at_call 26; (with_reducible refine (HR.out _ (b6 w _ _ _ _ _ _)).mono ?_); rintro e w1 ⟨rfl, hm⟩; have H1 := Lib.hid (Eu.of (eo6 (s := s) (a := a) rfl rfl hm)); clear hm; obtain ⟨d0, d1, d2⟩ := H1.out.e.cd; obtain ⟨c0, c1, c2, c3, c4, c5, c6, c7, c8⟩ := H1.out.e.cs; obtain ⟨a0, a1, a2, a3, a4, a5, a6⟩ := H1.out.ac))
    have H6 := Lib.hid H1.out
    clear H1 HR d0 d1 d2 c0 c1 c2 c3 c4 c5 c6 c7 c8 a0 a1 a2 a3 a4 a5 a6
    generalize w1 = W6 at *
    have HS6 : (fun u => Eu w u nm dl A n c s a cm0) W6.drew := H6.out.on (Below.drew (Below.refl _ _))
    have u0 : ∀ u, (fun u => Eu w u nm dl A n c s a cm0) u → u.cell? ⟨w.heap.size + 1, 0, none⟩ = some (.int .i64 s.id) := fun u H => H.e.s.cell 0
    have u1 : ∀ u, (fun u => Eu w u nm dl A n c s a cm0) u → u.cell? ⟨w.heap.size + 1, 1, none⟩ = some (.string s.dn) := fun u H => H.e.s.cell 1
    have u2 : ∀ u, (fun u => Eu w u nm dl A n c s a cm0) u → u.cell? ⟨w.heap.size + 1, 2, none⟩ = some (.int .i64 s.st) := fun u H => H.e.s.cell 2
    have u3 : ∀ u, (fun u => Eu w u nm dl A n c s a cm0) u → u.cell? ⟨w.heap.size + 1, 3, none⟩ = some (.int .i64 s.ph) := fun u H => H.e.s.cell 3
    have u4 : ∀ u, (fun u => Eu w u nm dl A n c s a cm0) u → u.cell? ⟨w.heap.size + 1, 4, none⟩ = some (.int .i64 s.sp) := fun u H => H.e.s.cell 4
    have u5 : ∀ u, (fun u => Eu w u nm dl A n c s a cm0) u → u.cell? ⟨w.heap.size + 1, 5, none⟩ = some (.int .i64 s.tr) := fun u H => H.e.s.cell 5
    have u6 : ∀ u, (fun u => Eu w u nm dl A n c s a cm0) u → u.cell? ⟨w.heap.size + 1, 6, none⟩ = some (.bool s.out) := fun u H => H.e.s.cell 6
    have u7 : ∀ u, (fun u => Eu w u nm dl A n c s a cm0) u → u.cell? ⟨w.heap.size + 1, 7, none⟩ = some (.int .i64 s.at_) := fun u H => H.e.s.cell 7
    have u8 : ∀ u, (fun u => Eu w u nm dl A n c s a cm0) u → u.cell? ⟨w.heap.size + 1, 8, none⟩ = some (.int .i64 s.sk) := fun u H => H.e.s.cell 8
    have k0 : ∀ u, (fun u => Eu w u nm dl A n c s a cm0) u → u.cell? ⟨w.heap.size + 5, 0, none⟩ = some (.int .i64 cm0.sg) := fun u H => H.c.cell 0
    have k1 : ∀ u, (fun u => Eu w u nm dl A n c s a cm0) u → u.cell? ⟨w.heap.size + 5, 1, none⟩ = some (.int .i64 cm0.sp) := fun u H => H.c.cell 1
    have k2 : ∀ u, (fun u => Eu w u nm dl A n c s a cm0) u → u.cell? ⟨w.heap.size + 5, 2, none⟩ = some (.bool cm0.un) := fun u H => H.c.cell 2
    have k3 : ∀ u, (fun u => Eu w u nm dl A n c s a cm0) u → u.cell? ⟨w.heap.size + 5, 3, none⟩ = some (.int .i64 cm0.tr) := fun u H => H.c.cell 3
    have k4 : ∀ u, (fun u => Eu w u nm dl A n c s a cm0) u → u.cell? ⟨w.heap.size + 5, 4, none⟩ = some (.string cm0.pt) := fun u H => H.c.cell 4
    have k5 : ∀ u, (fun u => Eu w u nm dl A n c s a cm0) u → u.cell? ⟨w.heap.size + 5, 5, none⟩ = some (.string cm0.key) := fun u H => H.c.cell 5
    refine wp_region_held_drew (S := fun u => Eu w u nm dl A n c s a cm0) (by kernel_rfl) HS6 (fun hHeld => ?_)
    refine wpAnyH_take (i := 0) (oi := ⟨some 75, _, _, _, _, _⟩) (v := ?_) rfl (by kernel_rfl) (by kernel_rfl) (by kernel_rfl) (fun _ _ _ h => h) (Or.inl ⟨by rfl, ?_⟩) (by assumption) ?_
    rotate_left
    · (intro u hu; (try dsimp only at hu); go_simp; (try with_reducible rfl))
    (try simp only [Act.put, List.setIfInBounds_toArray, List.set_cons_zero, List.set_cons_succ])
    refine wpAnyH_take (i := 1) (oi := ⟨some 76, _, _, _, _, _⟩) (v := ?_) rfl (by kernel_rfl) (by kernel_rfl) (by kernel_rfl) (fun _ _ _ h => h) (Or.inl ⟨by rfl, ?_⟩) (by assumption) ?_
    rotate_left
    · (intro u hu; (try dsimp only at hu); go_simp; (try with_reducible rfl))
    (try simp only [Act.put, List.setIfInBounds_toArray, List.set_cons_zero, List.set_cons_succ])
    refine wpAnyH_take (i := 2) (oi := ⟨some 77, _, _, _, _, _⟩) (v := ?_) rfl (by kernel_rfl) (by kernel_rfl) (by kernel_rfl) (fun _ _ _ h => h) (Or.inl ⟨by rfl, ?_⟩) (by assumption) ?_
    rotate_left
    · (intro u hu; (try dsimp only at hu); go_simp; (try with_reducible rfl))
    (try simp only [Act.put, List.setIfInBounds_toArray, List.set_cons_zero, List.set_cons_succ])
    refine wpAnyH_ready (rs := [3]) (by kernel_rfl) (by simp) ?_
    refine AllReadyH.cons (o := ⟨none, _, _, _, _, _⟩) rfl (fun K hK => ?_) AllReadyH.nil
    rw [if_pos (by rfl)]
    obtain ⟨cs, hcs, hsz⟩ := HS6.q
    refine oper_store_row 26 _ _ rfl (w.heap.size + 3) 26 cs (s).arr rfl rfl hcs (sizeG _) hsz (oneG _) ?_
    refine hK.out _ _ ?_ (fun hHeld => ?_)
    · exact Eu.set3 HS6 _
    clear hK K hcs hsz
    (try simp only [Act.put])
    refine wpAnyH_ready (rs := [4]) (by kernel_rfl) (by simp) ?_
    refine AllReadyH.cons (o := ⟨none, _, _, _, _, _⟩) rfl (fun K hK => ?_) AllReadyH.nil
    rw [if_pos (by rfl)]
    obtain ⟨cs, hcs, hsz⟩ := (Eu.set3 HS6 _).k
    refine oper_store_row 34 _ _ rfl (w.heap.size + 4) 34 cs (cm0).arr rfl rfl hcs (sizeC _) hsz (oneC _) ?_
    refine hK.out _ _ ?_ (fun hHeld => ?_)
    · exact Eu.set4 (Eu.set3 HS6 _) _
    clear hK K hcs hsz
    (try simp only [Act.put])
    refine wpAnyH_take (i := 5) (oi := ⟨some 8, _, _, _, _, _⟩) (v := ?_) rfl (by kernel_rfl) (by kernel_rfl) (by kernel_rfl) (fun _ _ _ h => h) (Or.inl ⟨by rfl, ?_⟩) (by assumption) ?_
    rotate_left
    · (intro u hu; (try dsimp only at hu); go_simp; (try with_reducible rfl))
    (try simp only [Act.put, List.setIfInBounds_toArray, List.set_cons_zero, List.set_cons_succ])
    refine wpAnyH_done (by kernel_rfl) ?_ _
    go_wp2
    exact bodyPost_ret (res_sg_cm_tmp rfl _ _ (w.heap.size + 3) (w.heap.size + 4) s cm0 rfl rfl (Eu.rows HS6 s cm0).1 (Eu.rows HS6 s cm0).2.1) rfl ⟨rfl, (Eu.rows HS6 s cm0).2.2⟩
set_option maxRecDepth 100000 in
set_option maxHeartbeats 4000000 in
theorem tells3_any (hk : a.k = 3) : Calls Tryz.prog 8 #[.agg #[.string nm, .int .i64 dl, .slice A n c], .agg #[.int .i64 s.id, .string s.dn, .int .i64 s.st, .int .i64 s.ph, .int .i64 s.sp, .int .i64 s.tr, .bool s.out, .int .i64 s.at_, .int .i64 s.sk], .agg #[.int .i64 a.k, .int .i64 a.now, .int .i64 a.r.sg, .int .i64 a.r.sp, .bool a.r.un, .int .i64 a.r.tr, .bool a.r.good]] w fun e w' => e = .returned (.tuple #[.agg (doA nm dl ss s a).1.arr, .agg (doA nm dl ss s a).2.1.arr, .int .i64 (doA nm dl ss s a).2.2]) ∧ Below w.heap.size w w' := by
  have hX : doA nm dl ss s a = ((replyA nm dl ss s a.r a.now).1, cm0, (replyA nm dl ss s a.r a.now).2) := by
    unfold doA
    rw [if_neg (by omega), if_pos (by omega)]
  have _hid := hid
  have HE := Lib.hid (fun W (hW : Below w.heap.size w W) => rreply_any nm dl A n c ss s a.r W (hd.on hW) a.now ht)
  rw [hX]
  generalize replyA nm dl ss s a.r a.now = Y at *
  obtain ⟨y1, y2⟩ := Y
  dsimp only at HE ⊢
  clear hX
  have q0 : (a.k == 0) = false := by simp [hk]
  have q1 : (a.k == 1) = false := by simp [hk]
  have q2 : (a.k == 2) = false := by simp [hk]
  have q3 : (a.k == 3) = true := by simp [hk]
  clear hk hd ht hid _hid
  go_enter Tryz.func8, Tryz.ntmps8
  go_wp2_with (first
    | (go_at_call 28; (with_reducible refine (HE.out _ (b6 w _ _ _ _ _ _)).mono ?_); rintro e w1 ⟨rfl, hm⟩; have H1 := Lib.hid (Eu.of (eo6 (s := s) (a := a) rfl rfl hm)); clear hm; obtain ⟨d0, d1, d2⟩ := H1.out.e.cd; obtain ⟨c0, c1, c2, c3, c4, c5, c6, c7, c8⟩ := H1.out.e.cs; obtain ⟨a0, a1, a2, a3, a4, a5, a6⟩ := H1.out.ac)
    | (obtain ⟨cs, hcs, hsz⟩ := (Box.slot H1.out.e.s rfl : Slot _ _ _ 9); refine wpList_store_row rfl 26 _ _ rfl (w.heap.size + 1) 26 cs (y1).arr rfl rfl hcs (sizeG _) hsz (oneG _) ?_))
  have H6 := Lib.hid (H1.out.setS y1)
  generalize w1.setRow (w.heap.size + 1) y1.arr = W6 at *
  have HS6 : (fun u => Eu w u nm dl A n c y1 a cm0) W6.drew := H6.out.on (Below.drew (Below.refl _ _))
  have u0 : ∀ u, (fun u => Eu w u nm dl A n c y1 a cm0) u → u.cell? ⟨w.heap.size + 1, 0, none⟩ = some (.int .i64 y1.id) := fun u H => H.e.s.cell 0
  have u1 : ∀ u, (fun u => Eu w u nm dl A n c y1 a cm0) u → u.cell? ⟨w.heap.size + 1, 1, none⟩ = some (.string y1.dn) := fun u H => H.e.s.cell 1
  have u2 : ∀ u, (fun u => Eu w u nm dl A n c y1 a cm0) u → u.cell? ⟨w.heap.size + 1, 2, none⟩ = some (.int .i64 y1.st) := fun u H => H.e.s.cell 2
  have u3 : ∀ u, (fun u => Eu w u nm dl A n c y1 a cm0) u → u.cell? ⟨w.heap.size + 1, 3, none⟩ = some (.int .i64 y1.ph) := fun u H => H.e.s.cell 3
  have u4 : ∀ u, (fun u => Eu w u nm dl A n c y1 a cm0) u → u.cell? ⟨w.heap.size + 1, 4, none⟩ = some (.int .i64 y1.sp) := fun u H => H.e.s.cell 4
  have u5 : ∀ u, (fun u => Eu w u nm dl A n c y1 a cm0) u → u.cell? ⟨w.heap.size + 1, 5, none⟩ = some (.int .i64 y1.tr) := fun u H => H.e.s.cell 5
  have u6 : ∀ u, (fun u => Eu w u nm dl A n c y1 a cm0) u → u.cell? ⟨w.heap.size + 1, 6, none⟩ = some (.bool y1.out) := fun u H => H.e.s.cell 6
  have u7 : ∀ u, (fun u => Eu w u nm dl A n c y1 a cm0) u → u.cell? ⟨w.heap.size + 1, 7, none⟩ = some (.int .i64 y1.at_) := fun u H => H.e.s.cell 7
  have u8 : ∀ u, (fun u => Eu w u nm dl A n c y1 a cm0) u → u.cell? ⟨w.heap.size + 1, 8, none⟩ = some (.int .i64 y1.sk) := fun u H => H.e.s.cell 8
  have k0 : ∀ u, (fun u => Eu w u nm dl A n c y1 a cm0) u → u.cell? ⟨w.heap.size + 5, 0, none⟩ = some (.int .i64 cm0.sg) := fun u H => H.c.cell 0
  have k1 : ∀ u, (fun u => Eu w u nm dl A n c y1 a cm0) u → u.cell? ⟨w.heap.size + 5, 1, none⟩ = some (.int .i64 cm0.sp) := fun u H => H.c.cell 1
  have k2 : ∀ u, (fun u => Eu w u nm dl A n c y1 a cm0) u → u.cell? ⟨w.heap.size + 5, 2, none⟩ = some (.bool cm0.un) := fun u H => H.c.cell 2
  have k3 : ∀ u, (fun u => Eu w u nm dl A n c y1 a cm0) u → u.cell? ⟨w.heap.size + 5, 3, none⟩ = some (.int .i64 cm0.tr) := fun u H => H.c.cell 3
  have k4 : ∀ u, (fun u => Eu w u nm dl A n c y1 a cm0) u → u.cell? ⟨w.heap.size + 5, 4, none⟩ = some (.string cm0.pt) := fun u H => H.c.cell 4
  have k5 : ∀ u, (fun u => Eu w u nm dl A n c y1 a cm0) u → u.cell? ⟨w.heap.size + 5, 5, none⟩ = some (.string cm0.key) := fun u H => H.c.cell 5
  refine wp_region_held_drew (S := fun u => Eu w u nm dl A n c y1 a cm0) (by kernel_rfl) HS6 (fun hHeld => ?_)
  refine wpAnyH_take (i := 0) (oi := ⟨some 75, _, _, _, _, _⟩) (v := ?_) rfl (by kernel_rfl) (by kernel_rfl) (by kernel_rfl) (fun _ _ _ h => h) (Or.inl ⟨by rfl, ?_⟩) (by assumption) ?_
  rotate_left
  · (intro u hu; (try dsimp only at hu); go_simp; (try with_reducible rfl))
  (try simp only [Act.put, List.setIfInBounds_toArray, List.set_cons_zero, List.set_cons_succ])
  refine wpAnyH_take (i := 1) (oi := ⟨some 76, _, _, _, _, _⟩) (v := ?_) rfl (by kernel_rfl) (by kernel_rfl) (by kernel_rfl) (fun _ _ _ h => h) (Or.inl ⟨by rfl, ?_⟩) (by assumption) ?_
  rotate_left
  · (intro u hu; (try dsimp only at hu); go_simp; (try with_reducible rfl))
  (try simp only [Act.put, List.setIfInBounds_toArray, List.set_cons_zero, List.set_cons_succ])
  refine wpAnyH_take (i := 2) (oi := ⟨some 77, _, _, _, _, _⟩) (v := ?_) rfl (by kernel_rfl) (by kernel_rfl) (by kernel_rfl) (fun _ _ _ h => h) (Or.inl ⟨by rfl, ?_⟩) (by assumption) ?_
  rotate_left
  · (intro u hu; (try dsimp only at hu); go_simp; (try with_reducible rfl))
  (try simp only [Act.put, List.setIfInBounds_toArray, List.set_cons_zero, List.set_cons_succ])
  refine wpAnyH_ready (rs := [3]) (by kernel_rfl) (by simp) ?_
  refine AllReadyH.cons (o := ⟨none, _, _, _, _, _⟩) rfl (fun K hK => ?_) AllReadyH.nil
  rw [if_pos (by rfl)]
  obtain ⟨cs, hcs, hsz⟩ := HS6.q
  refine oper_store_row 26 _ _ rfl (w.heap.size + 3) 26 cs (y1).arr rfl rfl hcs (sizeG _) hsz (oneG _) ?_
  refine hK.out _ _ ?_ (fun hHeld => ?_)
  · exact Eu.set3 HS6 _
  clear hK K hcs hsz
  (try simp only [Act.put])
  refine wpAnyH_ready (rs := [4]) (by kernel_rfl) (by simp) ?_
  refine AllReadyH.cons (o := ⟨none, _, _, _, _, _⟩) rfl (fun K hK => ?_) AllReadyH.nil
  rw [if_pos (by rfl)]
  obtain ⟨cs, hcs, hsz⟩ := (Eu.set3 HS6 _).k
  refine oper_store_row 34 _ _ rfl (w.heap.size + 4) 34 cs (cm0).arr rfl rfl hcs (sizeC _) hsz (oneC _) ?_
  refine hK.out _ _ ?_ (fun hHeld => ?_)
  · exact Eu.set4 (Eu.set3 HS6 _) _
  clear hK K hcs hsz
  (try simp only [Act.put])
  refine wpAnyH_take (i := 5) (oi := ⟨some 8, _, _, _, _, _⟩) (v := ?_) rfl (by kernel_rfl) (by kernel_rfl) (by kernel_rfl) (fun _ _ _ h => h) (Or.inl ⟨by rfl, ?_⟩) (by assumption) ?_
  rotate_left
  · (intro u hu; (try dsimp only at hu); go_simp; (try with_reducible rfl))
  (try simp only [Act.put, List.setIfInBounds_toArray, List.set_cons_zero, List.set_cons_succ])
  refine wpAnyH_done (by kernel_rfl) ?_ _
  go_wp2
  exact bodyPost_ret (res_sg_cm_tmp rfl _ _ (w.heap.size + 3) (w.heap.size + 4) y1 cm0 rfl rfl (Eu.rows HS6 y1 cm0).1 (Eu.rows HS6 y1 cm0).2.1) rfl ⟨rfl, (Eu.rows HS6 y1 cm0).2.2⟩
set_option maxRecDepth 100000 in
set_option maxHeartbeats 4000000 in
theorem tells4_any (hk : a.k = 4) : Calls Tryz.prog 8 #[.agg #[.string nm, .int .i64 dl, .slice A n c], .agg #[.int .i64 s.id, .string s.dn, .int .i64 s.st, .int .i64 s.ph, .int .i64 s.sp, .int .i64 s.tr, .bool s.out, .int .i64 s.at_, .int .i64 s.sk], .agg #[.int .i64 a.k, .int .i64 a.now, .int .i64 a.r.sg, .int .i64 a.r.sp, .bool a.r.un, .int .i64 a.r.tr, .bool a.r.good]] w fun e w' => e = .returned (.tuple #[.agg (doA nm dl ss s a).1.arr, .agg (doA nm dl ss s a).2.1.arr, .int .i64 (doA nm dl ss s a).2.2]) ∧ Below w.heap.size w w' := by
  have hX : doA nm dl ss s a = ((replyA nm dl ss s a.r a.now).1, cm0, (replyA nm dl ss s a.r a.now).2) := by
    unfold doA
    rw [if_neg (by omega), if_pos (by omega)]
  have _hid := hid
  have HE := Lib.hid (fun W (hW : Below w.heap.size w W) => rreply_any nm dl A n c ss s a.r W (hd.on hW) a.now ht)
  rw [hX]
  generalize replyA nm dl ss s a.r a.now = Y at *
  obtain ⟨y1, y2⟩ := Y
  dsimp only at HE ⊢
  clear hX
  have q0 : (a.k == 0) = false := by simp [hk]
  have q1 : (a.k == 1) = false := by simp [hk]
  have q2 : (a.k == 2) = false := by simp [hk]
  have q3 : (a.k == 3) = false := by simp [hk]
  have q4 : (a.k == 4) = true := by simp [hk]
  clear hk hd ht hid _hid
  go_enter Tryz.func8, Tryz.ntmps8
  go_wp2_with (first
    | (go_at_call 28; (with_reducible refine (HE.out _ (b6 w _ _ _ _ _ _)).mono ?_); rintro e w1 ⟨rfl, hm⟩; have H1 := Lib.hid (Eu.of (eo6 (s := s) (a := a) rfl rfl hm)); clear hm; obtain ⟨d0, d1, d2⟩ := H1.out.e.cd; obtain ⟨c0, c1, c2, c3, c4, c5, c6, c7, c8⟩ := H1.out.e.cs; obtain ⟨a0, a1, a2, a3, a4, a5, a6⟩ := H1.out.ac)
    | (obtain ⟨cs, hcs, hsz⟩ := (Box.slot H1.out.e.s rfl : Slot _ _ _ 9); refine wpList_store_row rfl 26 _ _ rfl (w.heap.size + 1) 26 cs (y1).arr rfl rfl hcs (sizeG _) hsz (oneG _) ?_))
  have H6 := Lib.hid (H1.out.setS y1)
  generalize w1.setRow (w.heap.size + 1) y1.arr = W6 at *
  have HS6 : (fun u => Eu w u nm dl A n c y1 a cm0) W6.drew := H6.out.on (Below.drew (Below.refl _ _))
  have u0 : ∀ u, (fun u => Eu w u nm dl A n c y1 a cm0) u → u.cell? ⟨w.heap.size + 1, 0, none⟩ = some (.int .i64 y1.id) := fun u H => H.e.s.cell 0
  have u1 : ∀ u, (fun u => Eu w u nm dl A n c y1 a cm0) u → u.cell? ⟨w.heap.size + 1, 1, none⟩ = some (.string y1.dn) := fun u H => H.e.s.cell 1
  have u2 : ∀ u, (fun u => Eu w u nm dl A n c y1 a cm0) u → u.cell? ⟨w.heap.size + 1, 2, none⟩ = some (.int .i64 y1.st) := fun u H => H.e.s.cell 2
  have u3 : ∀ u, (fun u => Eu w u nm dl A n c y1 a cm0) u → u.cell? ⟨w.heap.size + 1, 3, none⟩ = some (.int .i64 y1.ph) := fun u H => H.e.s.cell 3
  have u4 : ∀ u, (fun u => Eu w u nm dl A n c y1 a cm0) u → u.cell? ⟨w.heap.size + 1, 4, none⟩ = some (.int .i64 y1.sp) := fun u H => H.e.s.cell 4
  have u5 : ∀ u, (fun u => Eu w u nm dl A n c y1 a cm0) u → u.cell? ⟨w.heap.size + 1, 5, none⟩ = some (.int .i64 y1.tr) := fun u H => H.e.s.cell 5
  have u6 : ∀ u, (fun u => Eu w u nm dl A n c y1 a cm0) u → u.cell? ⟨w.heap.size + 1, 6, none⟩ = some (.bool y1.out) := fun u H => H.e.s.cell 6
  have u7 : ∀ u, (fun u => Eu w u nm dl A n c y1 a cm0) u → u.cell? ⟨w.heap.size + 1, 7, none⟩ = some (.int .i64 y1.at_) := fun u H => H.e.s.cell 7
  have u8 : ∀ u, (fun u => Eu w u nm dl A n c y1 a cm0) u → u.cell? ⟨w.heap.size + 1, 8, none⟩ = some (.int .i64 y1.sk) := fun u H => H.e.s.cell 8
  have k0 : ∀ u, (fun u => Eu w u nm dl A n c y1 a cm0) u → u.cell? ⟨w.heap.size + 5, 0, none⟩ = some (.int .i64 cm0.sg) := fun u H => H.c.cell 0
  have k1 : ∀ u, (fun u => Eu w u nm dl A n c y1 a cm0) u → u.cell? ⟨w.heap.size + 5, 1, none⟩ = some (.int .i64 cm0.sp) := fun u H => H.c.cell 1
  have k2 : ∀ u, (fun u => Eu w u nm dl A n c y1 a cm0) u → u.cell? ⟨w.heap.size + 5, 2, none⟩ = some (.bool cm0.un) := fun u H => H.c.cell 2
  have k3 : ∀ u, (fun u => Eu w u nm dl A n c y1 a cm0) u → u.cell? ⟨w.heap.size + 5, 3, none⟩ = some (.int .i64 cm0.tr) := fun u H => H.c.cell 3
  have k4 : ∀ u, (fun u => Eu w u nm dl A n c y1 a cm0) u → u.cell? ⟨w.heap.size + 5, 4, none⟩ = some (.string cm0.pt) := fun u H => H.c.cell 4
  have k5 : ∀ u, (fun u => Eu w u nm dl A n c y1 a cm0) u → u.cell? ⟨w.heap.size + 5, 5, none⟩ = some (.string cm0.key) := fun u H => H.c.cell 5
  refine wp_region_held_drew (S := fun u => Eu w u nm dl A n c y1 a cm0) (by kernel_rfl) HS6 (fun hHeld => ?_)
  refine wpAnyH_take (i := 0) (oi := ⟨some 75, _, _, _, _, _⟩) (v := ?_) rfl (by kernel_rfl) (by kernel_rfl) (by kernel_rfl) (fun _ _ _ h => h) (Or.inl ⟨by rfl, ?_⟩) (by assumption) ?_
  rotate_left
  · (intro u hu; (try dsimp only at hu); go_simp; (try with_reducible rfl))
  (try simp only [Act.put, List.setIfInBounds_toArray, List.set_cons_zero, List.set_cons_succ])
  refine wpAnyH_take (i := 1) (oi := ⟨some 76, _, _, _, _, _⟩) (v := ?_) rfl (by kernel_rfl) (by kernel_rfl) (by kernel_rfl) (fun _ _ _ h => h) (Or.inl ⟨by rfl, ?_⟩) (by assumption) ?_
  rotate_left
  · (intro u hu; (try dsimp only at hu); go_simp; (try with_reducible rfl))
  (try simp only [Act.put, List.setIfInBounds_toArray, List.set_cons_zero, List.set_cons_succ])
  refine wpAnyH_take (i := 2) (oi := ⟨some 77, _, _, _, _, _⟩) (v := ?_) rfl (by kernel_rfl) (by kernel_rfl) (by kernel_rfl) (fun _ _ _ h => h) (Or.inl ⟨by rfl, ?_⟩) (by assumption) ?_
  rotate_left
  · (intro u hu; (try dsimp only at hu); go_simp; (try with_reducible rfl))
  (try simp only [Act.put, List.setIfInBounds_toArray, List.set_cons_zero, List.set_cons_succ])
  refine wpAnyH_ready (rs := [3]) (by kernel_rfl) (by simp) ?_
  refine AllReadyH.cons (o := ⟨none, _, _, _, _, _⟩) rfl (fun K hK => ?_) AllReadyH.nil
  rw [if_pos (by rfl)]
  obtain ⟨cs, hcs, hsz⟩ := HS6.q
  refine oper_store_row 26 _ _ rfl (w.heap.size + 3) 26 cs (y1).arr rfl rfl hcs (sizeG _) hsz (oneG _) ?_
  refine hK.out _ _ ?_ (fun hHeld => ?_)
  · exact Eu.set3 HS6 _
  clear hK K hcs hsz
  (try simp only [Act.put])
  refine wpAnyH_ready (rs := [4]) (by kernel_rfl) (by simp) ?_
  refine AllReadyH.cons (o := ⟨none, _, _, _, _, _⟩) rfl (fun K hK => ?_) AllReadyH.nil
  rw [if_pos (by rfl)]
  obtain ⟨cs, hcs, hsz⟩ := (Eu.set3 HS6 _).k
  refine oper_store_row 34 _ _ rfl (w.heap.size + 4) 34 cs (cm0).arr rfl rfl hcs (sizeC _) hsz (oneC _) ?_
  refine hK.out _ _ ?_ (fun hHeld => ?_)
  · exact Eu.set4 (Eu.set3 HS6 _) _
  clear hK K hcs hsz
  (try simp only [Act.put])
  refine wpAnyH_take (i := 5) (oi := ⟨some 8, _, _, _, _, _⟩) (v := ?_) rfl (by kernel_rfl) (by kernel_rfl) (by kernel_rfl) (fun _ _ _ h => h) (Or.inl ⟨by rfl, ?_⟩) (by assumption) ?_
  rotate_left
  · (intro u hu; (try dsimp only at hu); go_simp; (try with_reducible rfl))
  (try simp only [Act.put, List.setIfInBounds_toArray, List.set_cons_zero, List.set_cons_succ])
  refine wpAnyH_done (by kernel_rfl) ?_ _
  go_wp2
  exact bodyPost_ret (res_sg_cm_tmp rfl _ _ (w.heap.size + 3) (w.heap.size + 4) y1 cm0 rfl rfl (Eu.rows HS6 y1 cm0).1 (Eu.rows HS6 y1 cm0).2.1) rfl ⟨rfl, (Eu.rows HS6 y1 cm0).2.2⟩
set_option maxRecDepth 100000 in
set_option maxHeartbeats 4000000 in
theorem tells5_any (hk : a.k = 5) : Calls Tryz.prog 8 #[.agg #[.string nm, .int .i64 dl, .slice A n c], .agg #[.int .i64 s.id, .string s.dn, .int .i64 s.st, .int .i64 s.ph, .int .i64 s.sp, .int .i64 s.tr, .bool s.out, .int .i64 s.at_, .int .i64 s.sk], .agg #[.int .i64 a.k, .int .i64 a.now, .int .i64 a.r.sg, .int .i64 a.r.sp, .bool a.r.un, .int .i64 a.r.tr, .bool a.r.good]] w fun e w' => e = .returned (.tuple #[.agg (doA nm dl ss s a).1.arr, .agg (doA nm dl ss s a).2.1.arr, .int .i64 (doA nm dl ss s a).2.2]) ∧ Below w.heap.size w w' := by
  have hX : doA nm dl ss s a = ((replyA nm dl ss s a.r a.now).1, cm0, (replyA nm dl ss s a.r a.now).2) := by
    unfold doA
    rw [if_neg (by omega), if_pos (by omega)]
  have _hid := hid
  have HE := Lib.hid (fun W (hW : Below w.heap.size w W) => rreply_any nm dl A n c ss s a.r W (hd.on hW) a.now ht)
  rw [hX]
  generalize replyA nm dl ss s a.r a.now = Y at *
  obtain ⟨y1, y2⟩ := Y
  dsimp only at HE ⊢
  clear hX
  have q0 : (a.k == 0) = false := by simp [hk]
  have q1 : (a.k == 1) = false := by simp [hk]
  have q2 : (a.k == 2) = false := by simp [hk]
  have q3 : (a.k == 3) = false := by simp [hk]
  have q4 : (a.k == 4) = false := by simp [hk]
  have q5 : (a.k == 5) = true := by simp [hk]
  clear hk hd ht hid _hid
  go_enter Tryz.func8, Tryz.ntmps8
  go_wp2_with (first
    | (go_at_call 28; (with_reducible refine (HE.out _ (b6 w _ _ _ _ _ _)).mono ?_); rintro e w1 ⟨rfl, hm⟩; have H1 := Lib.hid (Eu.of (eo6 (s := s) (a := a) rfl rfl hm)); clear hm; obtain ⟨d0, d1, d2⟩ := H1.out.e.cd; obtain ⟨c0, c1, c2, c3, c4, c5, c6, c7, c8⟩ := H1.out.e.cs; obtain ⟨a0, a1, a2, a3, a4, a5, a6⟩ := H1.out.ac)
    | (obtain ⟨cs, hcs, hsz⟩ := (Box.slot H1.out.e.s rfl : Slot _ _ _ 9); refine wpList_store_row rfl 26 _ _ rfl (w.heap.size + 1) 26 cs (y1).arr rfl rfl hcs (sizeG _) hsz (oneG _) ?_))
  have H6 := Lib.hid (H1.out.setS y1)
  generalize w1.setRow (w.heap.size + 1) y1.arr = W6 at *
  have HS6 : (fun u => Eu w u nm dl A n c y1 a cm0) W6.drew := H6.out.on (Below.drew (Below.refl _ _))
  have u0 : ∀ u, (fun u => Eu w u nm dl A n c y1 a cm0) u → u.cell? ⟨w.heap.size + 1, 0, none⟩ = some (.int .i64 y1.id) := fun u H => H.e.s.cell 0
  have u1 : ∀ u, (fun u => Eu w u nm dl A n c y1 a cm0) u → u.cell? ⟨w.heap.size + 1, 1, none⟩ = some (.string y1.dn) := fun u H => H.e.s.cell 1
  have u2 : ∀ u, (fun u => Eu w u nm dl A n c y1 a cm0) u → u.cell? ⟨w.heap.size + 1, 2, none⟩ = some (.int .i64 y1.st) := fun u H => H.e.s.cell 2
  have u3 : ∀ u, (fun u => Eu w u nm dl A n c y1 a cm0) u → u.cell? ⟨w.heap.size + 1, 3, none⟩ = some (.int .i64 y1.ph) := fun u H => H.e.s.cell 3
  have u4 : ∀ u, (fun u => Eu w u nm dl A n c y1 a cm0) u → u.cell? ⟨w.heap.size + 1, 4, none⟩ = some (.int .i64 y1.sp) := fun u H => H.e.s.cell 4
  have u5 : ∀ u, (fun u => Eu w u nm dl A n c y1 a cm0) u → u.cell? ⟨w.heap.size + 1, 5, none⟩ = some (.int .i64 y1.tr) := fun u H => H.e.s.cell 5
  have u6 : ∀ u, (fun u => Eu w u nm dl A n c y1 a cm0) u → u.cell? ⟨w.heap.size + 1, 6, none⟩ = some (.bool y1.out) := fun u H => H.e.s.cell 6
  have u7 : ∀ u, (fun u => Eu w u nm dl A n c y1 a cm0) u → u.cell? ⟨w.heap.size + 1, 7, none⟩ = some (.int .i64 y1.at_) := fun u H => H.e.s.cell 7
  have u8 : ∀ u, (fun u => Eu w u nm dl A n c y1 a cm0) u → u.cell? ⟨w.heap.size + 1, 8, none⟩ = some (.int .i64 y1.sk) := fun u H => H.e.s.cell 8
  have k0 : ∀ u, (fun u => Eu w u nm dl A n c y1 a cm0) u → u.cell? ⟨w.heap.size + 5, 0, none⟩ = some (.int .i64 cm0.sg) := fun u H => H.c.cell 0
  have k1 : ∀ u, (fun u => Eu w u nm dl A n c y1 a cm0) u → u.cell? ⟨w.heap.size + 5, 1, none⟩ = some (.int .i64 cm0.sp) := fun u H => H.c.cell 1
  have k2 : ∀ u, (fun u => Eu w u nm dl A n c y1 a cm0) u → u.cell? ⟨w.heap.size + 5, 2, none⟩ = some (.bool cm0.un) := fun u H => H.c.cell 2
  have k3 : ∀ u, (fun u => Eu w u nm dl A n c y1 a cm0) u → u.cell? ⟨w.heap.size + 5, 3, none⟩ = some (.int .i64 cm0.tr) := fun u H => H.c.cell 3
  have k4 : ∀ u, (fun u => Eu w u nm dl A n c y1 a cm0) u → u.cell? ⟨w.heap.size + 5, 4, none⟩ = some (.string cm0.pt) := fun u H => H.c.cell 4
  have k5 : ∀ u, (fun u => Eu w u nm dl A n c y1 a cm0) u → u.cell? ⟨w.heap.size + 5, 5, none⟩ = some (.string cm0.key) := fun u H => H.c.cell 5
  refine wp_region_held_drew (S := fun u => Eu w u nm dl A n c y1 a cm0) (by kernel_rfl) HS6 (fun hHeld => ?_)
  refine wpAnyH_take (i := 0) (oi := ⟨some 75, _, _, _, _, _⟩) (v := ?_) rfl (by kernel_rfl) (by kernel_rfl) (by kernel_rfl) (fun _ _ _ h => h) (Or.inl ⟨by rfl, ?_⟩) (by assumption) ?_
  rotate_left
  · (intro u hu; (try dsimp only at hu); go_simp; (try with_reducible rfl))
  (try simp only [Act.put, List.setIfInBounds_toArray, List.set_cons_zero, List.set_cons_succ])
  refine wpAnyH_take (i := 1) (oi := ⟨some 76, _, _, _, _, _⟩) (v := ?_) rfl (by kernel_rfl) (by kernel_rfl) (by kernel_rfl) (fun _ _ _ h => h) (Or.inl ⟨by rfl, ?_⟩) (by assumption) ?_
  rotate_left
  · (intro u hu; (try dsimp only at hu); go_simp; (try with_reducible rfl))
  (try simp only [Act.put, List.setIfInBounds_toArray, List.set_cons_zero, List.set_cons_succ])
  refine wpAnyH_take (i := 2) (oi := ⟨some 77, _, _, _, _, _⟩) (v := ?_) rfl (by kernel_rfl) (by kernel_rfl) (by kernel_rfl) (fun _ _ _ h => h) (Or.inl ⟨by rfl, ?_⟩) (by assumption) ?_
  rotate_left
  · (intro u hu; (try dsimp only at hu); go_simp; (try with_reducible rfl))
  (try simp only [Act.put, List.setIfInBounds_toArray, List.set_cons_zero, List.set_cons_succ])
  refine wpAnyH_ready (rs := [3]) (by kernel_rfl) (by simp) ?_
  refine AllReadyH.cons (o := ⟨none, _, _, _, _, _⟩) rfl (fun K hK => ?_) AllReadyH.nil
  rw [if_pos (by rfl)]
  obtain ⟨cs, hcs, hsz⟩ := HS6.q
  refine oper_store_row 26 _ _ rfl (w.heap.size + 3) 26 cs (y1).arr rfl rfl hcs (sizeG _) hsz (oneG _) ?_
  refine hK.out _ _ ?_ (fun hHeld => ?_)
  · exact Eu.set3 HS6 _
  clear hK K hcs hsz
  (try simp only [Act.put])
  refine wpAnyH_ready (rs := [4]) (by kernel_rfl) (by simp) ?_
  refine AllReadyH.cons (o := ⟨none, _, _, _, _, _⟩) rfl (fun K hK => ?_) AllReadyH.nil
  rw [if_pos (by rfl)]
  obtain ⟨cs, hcs, hsz⟩ := (Eu.set3 HS6 _).k
  refine oper_store_row 34 _ _ rfl (w.heap.size + 4) 34 cs (cm0).arr rfl rfl hcs (sizeC _) hsz (oneC _) ?_
  refine hK.out _ _ ?_ (fun hHeld => ?_)
  · exact Eu.set4 (Eu.set3 HS6 _) _
  clear hK K hcs hsz
  (try simp only [Act.put])
  refine wpAnyH_take (i := 5) (oi := ⟨some 8, _, _, _, _, _⟩) (v := ?_) rfl (by kernel_rfl) (by kernel_rfl) (by kernel_rfl) (fun _ _ _ h => h) (Or.inl ⟨by rfl, ?_⟩) (by assumption) ?_
  rotate_left
  · (intro u hu; (try dsimp only at hu); go_simp; (try with_reducible rfl))
  (try simp only [Act.put, List.setIfInBounds_toArray, List.set_cons_zero, List.set_cons_succ])
  refine wpAnyH_done (by kernel_rfl) ?_ _
  go_wp2
  exact bodyPost_ret (res_sg_cm_tmp rfl _ _ (w.heap.size + 3) (w.heap.size + 4) y1 cm0 rfl rfl (Eu.rows HS6 y1 cm0).1 (Eu.rows HS6 y1 cm0).2.1) rfl ⟨rfl, (Eu.rows HS6 y1 cm0).2.2⟩
set_option maxRecDepth 100000 in
set_option maxHeartbeats 4000000 in
theorem tells6_any (hk : a.k = 6) : Calls Tryz.prog 8 #[.agg #[.string nm, .int .i64 dl, .slice A n c], .agg #[.int .i64 s.id, .string s.dn, .int .i64 s.st, .int .i64 s.ph, .int .i64 s.sp, .int .i64 s.tr, .bool s.out, .int .i64 s.at_, .int .i64 s.sk], .agg #[.int .i64 a.k, .int .i64 a.now, .int .i64 a.r.sg, .int .i64 a.r.sp, .bool a.r.un, .int .i64 a.r.tr, .bool a.r.good]] w fun e w' => e = .returned (.tuple #[.agg (doA nm dl ss s a).1.arr, .agg (doA nm dl ss s a).2.1.arr, .int .i64 (doA nm dl ss s a).2.2]) ∧ Below w.heap.size w w' := by
  have hX : doA nm dl ss s a = ((numA nm dl ss s (a.k - 6) a.now).1, cm0, (numA nm dl ss s (a.k - 6) a.now).2) := by
    unfold doA
    rw [if_neg (by omega), if_neg (by omega), if_pos (by omega)]
  have _hid := hid
  have HE := Lib.hid (fun W (hW : Below w.heap.size w W) => rdo_any nm dl A n c ss s W (hd.on hW) (a.k - 6) a.now ht (by omega))
  have hwk : IntKind.i64.wrap (a.k - 6) = a.k - 6 := by rw [IntKind.wrap_i64]; omega
  rw [hX]
  generalize numA nm dl ss s (a.k - 6) a.now = Y at *
  obtain ⟨y1, y2⟩ := Y
  dsimp only at HE ⊢
  clear hX
  have q0 : (a.k == 0) = false := by simp [hk]
  have q1 : (a.k == 1) = false := by simp [hk]
  have q2 : (a.k == 2) = false := by simp [hk]
  have q3 : (a.k == 3) = false := by simp [hk]
  have q4 : (a.k == 4) = false := by simp [hk]
  have q5 : (a.k == 5) = false := by simp [hk]
  have q6 : (a.k == 6) = true := by simp [hk]
  clear hk hd ht hid _hid
  go_enter Tryz.func8, Tryz.ntmps8
  go_wp2_with (first
    | (go_at_call 29; (with_reducible refine (HE.out _ (b6 w _ _ _ _ _ _)).mono ?_); rintro e w1 ⟨rfl, hm⟩; have H1 := Lib.hid (Eu.of (eo6 (s := s) (a := a) rfl rfl hm)); clear hm; obtain ⟨d0, d1, d2⟩ := H1.out.e.cd; obtain ⟨c0, c1, c2, c3, c4, c5, c6, c7, c8⟩ := H1.out.e.cs; obtain ⟨a0, a1, a2, a3, a4, a5, a6⟩ := H1.out.ac)
    | (obtain ⟨cs, hcs, hsz⟩ := (Box.slot H1.out.e.s rfl : Slot _ _ _ 9); refine wpList_store_row rfl 26 _ _ rfl (w.heap.size + 1) 26 cs (y1).arr rfl rfl hcs (sizeG _) hsz (oneG _) ?_))
  have H6 := Lib.hid (H1.out.setS y1)
  generalize w1.setRow (w.heap.size + 1) y1.arr = W6 at *
  have HS6 : (fun u => Eu w u nm dl A n c y1 a cm0) W6.drew := H6.out.on (Below.drew (Below.refl _ _))
  have u0 : ∀ u, (fun u => Eu w u nm dl A n c y1 a cm0) u → u.cell? ⟨w.heap.size + 1, 0, none⟩ = some (.int .i64 y1.id) := fun u H => H.e.s.cell 0
  have u1 : ∀ u, (fun u => Eu w u nm dl A n c y1 a cm0) u → u.cell? ⟨w.heap.size + 1, 1, none⟩ = some (.string y1.dn) := fun u H => H.e.s.cell 1
  have u2 : ∀ u, (fun u => Eu w u nm dl A n c y1 a cm0) u → u.cell? ⟨w.heap.size + 1, 2, none⟩ = some (.int .i64 y1.st) := fun u H => H.e.s.cell 2
  have u3 : ∀ u, (fun u => Eu w u nm dl A n c y1 a cm0) u → u.cell? ⟨w.heap.size + 1, 3, none⟩ = some (.int .i64 y1.ph) := fun u H => H.e.s.cell 3
  have u4 : ∀ u, (fun u => Eu w u nm dl A n c y1 a cm0) u → u.cell? ⟨w.heap.size + 1, 4, none⟩ = some (.int .i64 y1.sp) := fun u H => H.e.s.cell 4
  have u5 : ∀ u, (fun u => Eu w u nm dl A n c y1 a cm0) u → u.cell? ⟨w.heap.size + 1, 5, none⟩ = some (.int .i64 y1.tr) := fun u H => H.e.s.cell 5
  have u6 : ∀ u, (fun u => Eu w u nm dl A n c y1 a cm0) u → u.cell? ⟨w.heap.size + 1, 6, none⟩ = some (.bool y1.out) := fun u H => H.e.s.cell 6
  have u7 : ∀ u, (fun u => Eu w u nm dl A n c y1 a cm0) u → u.cell? ⟨w.heap.size + 1, 7, none⟩ = some (.int .i64 y1.at_) := fun u H => H.e.s.cell 7
  have u8 : ∀ u, (fun u => Eu w u nm dl A n c y1 a cm0) u → u.cell? ⟨w.heap.size + 1, 8, none⟩ = some (.int .i64 y1.sk) := fun u H => H.e.s.cell 8
  have k0 : ∀ u, (fun u => Eu w u nm dl A n c y1 a cm0) u → u.cell? ⟨w.heap.size + 5, 0, none⟩ = some (.int .i64 cm0.sg) := fun u H => H.c.cell 0
  have k1 : ∀ u, (fun u => Eu w u nm dl A n c y1 a cm0) u → u.cell? ⟨w.heap.size + 5, 1, none⟩ = some (.int .i64 cm0.sp) := fun u H => H.c.cell 1
  have k2 : ∀ u, (fun u => Eu w u nm dl A n c y1 a cm0) u → u.cell? ⟨w.heap.size + 5, 2, none⟩ = some (.bool cm0.un) := fun u H => H.c.cell 2
  have k3 : ∀ u, (fun u => Eu w u nm dl A n c y1 a cm0) u → u.cell? ⟨w.heap.size + 5, 3, none⟩ = some (.int .i64 cm0.tr) := fun u H => H.c.cell 3
  have k4 : ∀ u, (fun u => Eu w u nm dl A n c y1 a cm0) u → u.cell? ⟨w.heap.size + 5, 4, none⟩ = some (.string cm0.pt) := fun u H => H.c.cell 4
  have k5 : ∀ u, (fun u => Eu w u nm dl A n c y1 a cm0) u → u.cell? ⟨w.heap.size + 5, 5, none⟩ = some (.string cm0.key) := fun u H => H.c.cell 5
  refine wp_region_held_drew (S := fun u => Eu w u nm dl A n c y1 a cm0) (by kernel_rfl) HS6 (fun hHeld => ?_)
  refine wpAnyH_take (i := 0) (oi := ⟨some 75, _, _, _, _, _⟩) (v := ?_) rfl (by kernel_rfl) (by kernel_rfl) (by kernel_rfl) (fun _ _ _ h => h) (Or.inl ⟨by rfl, ?_⟩) (by assumption) ?_
  rotate_left
  · (intro u hu; (try dsimp only at hu); go_simp; (try with_reducible rfl))
  (try simp only [Act.put, List.setIfInBounds_toArray, List.set_cons_zero, List.set_cons_succ])
  refine wpAnyH_take (i := 1) (oi := ⟨some 76, _, _, _, _, _⟩) (v := ?_) rfl (by kernel_rfl) (by kernel_rfl) (by kernel_rfl) (fun _ _ _ h => h) (Or.inl ⟨by rfl, ?_⟩) (by assumption) ?_
  rotate_left
  · (intro u hu; (try dsimp only at hu); go_simp; (try with_reducible rfl))
  (try simp only [Act.put, List.setIfInBounds_toArray, List.set_cons_zero, List.set_cons_succ])
  refine wpAnyH_take (i := 2) (oi := ⟨some 77, _, _, _, _, _⟩) (v := ?_) rfl (by kernel_rfl) (by kernel_rfl) (by kernel_rfl) (fun _ _ _ h => h) (Or.inl ⟨by rfl, ?_⟩) (by assumption) ?_
  rotate_left
  · (intro u hu; (try dsimp only at hu); go_simp; (try with_reducible rfl))
  (try simp only [Act.put, List.setIfInBounds_toArray, List.set_cons_zero, List.set_cons_succ])
  refine wpAnyH_ready (rs := [3]) (by kernel_rfl) (by simp) ?_
  refine AllReadyH.cons (o := ⟨none, _, _, _, _, _⟩) rfl (fun K hK => ?_) AllReadyH.nil
  rw [if_pos (by rfl)]
  obtain ⟨cs, hcs, hsz⟩ := HS6.q
  refine oper_store_row 26 _ _ rfl (w.heap.size + 3) 26 cs (y1).arr rfl rfl hcs (sizeG _) hsz (oneG _) ?_
  refine hK.out _ _ ?_ (fun hHeld => ?_)
  · exact Eu.set3 HS6 _
  clear hK K hcs hsz
  (try simp only [Act.put])
  refine wpAnyH_ready (rs := [4]) (by kernel_rfl) (by simp) ?_
  refine AllReadyH.cons (o := ⟨none, _, _, _, _, _⟩) rfl (fun K hK => ?_) AllReadyH.nil
  rw [if_pos (by rfl)]
  obtain ⟨cs, hcs, hsz⟩ := (Eu.set3 HS6 _).k
  refine oper_store_row 34 _ _ rfl (w.heap.size + 4) 34 cs (cm0).arr rfl rfl hcs (sizeC _) hsz (oneC _) ?_
  refine hK.out _ _ ?_ (fun hHeld => ?_)
  · exact Eu.set4 (Eu.set3 HS6 _) _
  clear hK K hcs hsz
  (try simp only [Act.put])
  refine wpAnyH_take (i := 5) (oi := ⟨some 8, _, _, _, _, _⟩) (v := ?_) rfl (by kernel_rfl) (by kernel_rfl) (by kernel_rfl) (fun _ _ _ h => h) (Or.inl ⟨by rfl, ?_⟩) (by assumption) ?_
  rotate_left
  · (intro u hu; (try dsimp only at hu); go_simp; (try with_reducible rfl))
  (try simp only [Act.put, List.setIfInBounds_toArray, List.set_cons_zero, List.set_cons_succ])
  refine wpAnyH_done (by kernel_rfl) ?_ _
  go_wp2
  exact bodyPost_ret (res_sg_cm_tmp rfl _ _ (w.heap.size + 3) (w.heap.size + 4) y1 cm0 rfl rfl (Eu.rows HS6 y1 cm0).1 (Eu.rows HS6 y1 cm0).2.1) rfl ⟨rfl, (Eu.rows HS6 y1 cm0).2.2⟩
set_option maxRecDepth 100000 in
set_option maxHeartbeats 4000000 in
theorem tells7_any (hk : a.k = 7) : Calls Tryz.prog 8 #[.agg #[.string nm, .int .i64 dl, .slice A n c], .agg #[.int .i64 s.id, .string s.dn, .int .i64 s.st, .int .i64 s.ph, .int .i64 s.sp, .int .i64 s.tr, .bool s.out, .int .i64 s.at_, .int .i64 s.sk], .agg #[.int .i64 a.k, .int .i64 a.now, .int .i64 a.r.sg, .int .i64 a.r.sp, .bool a.r.un, .int .i64 a.r.tr, .bool a.r.good]] w fun e w' => e = .returned (.tuple #[.agg (doA nm dl ss s a).1.arr, .agg (doA nm dl ss s a).2.1.arr, .int .i64 (doA nm dl ss s a).2.2]) ∧ Below w.heap.size w w' := by
  have hX : doA nm dl ss s a = ((numA nm dl ss s (a.k - 6) a.now).1, cm0, (numA nm dl ss s (a.k - 6) a.now).2) := by
    unfold doA
    rw [if_neg (by omega), if_neg (by omega), if_pos (by omega)]
  have _hid := hid
  have HE := Lib.hid (fun W (hW : Below w.heap.size w W) => rdo_any nm dl A n c ss s W (hd.on hW) (a.k - 6) a.now ht (by omega))
  have hwk : IntKind.i64.wrap (a.k - 6) = a.k - 6 := by rw [IntKind.wrap_i64]; omega
  rw [hX]
  generalize numA nm dl ss s (a.k - 6) a.now = Y at *
  obtain ⟨y1, y2⟩ := Y
  dsimp only at HE ⊢
  clear hX
  have q0 : (a.k == 0) = false := by simp [hk]
  have q1 : (a.k == 1) = false := by simp [hk]
  have q2 : (a.k == 2) = false := by simp [hk]
  have q3 : (a.k == 3) = false := by simp [hk]
  have q4 : (a.k == 4) = false := by simp [hk]
  have q5 : (a.k == 5) = false := by simp [hk]
  have q6 : (a.k == 6) = false := by simp [hk]
  have q7 : (a.k == 7) = true := by simp [hk]
  clear hk hd ht hid _hid
  go_enter Tryz.func8, Tryz.ntmps8
  go_wp2_with (first
    | (go_at_call 29; (with_reducible refine (HE.out _ (b6 w _ _ _ _ _ _)).mono ?_); rintro e w1 ⟨rfl, hm⟩; have H1 := Lib.hid (Eu.of (eo6 (s := s) (a := a) rfl rfl hm)); clear hm; obtain ⟨d0, d1, d2⟩ := H1.out.e.cd; obtain ⟨c0, c1, c2, c3, c4, c5, c6, c7, c8⟩ := H1.out.e.cs; obtain ⟨a0, a1, a2, a3, a4, a5, a6⟩ := H1.out.ac)
    | (obtain ⟨cs, hcs, hsz⟩ := (Box.slot H1.out.e.s rfl : Slot _ _ _ 9); refine wpList_store_row rfl 26 _ _ rfl (w.heap.size + 1) 26 cs (y1).arr rfl rfl hcs (sizeG _) hsz (oneG _) ?_))
  have H6 := Lib.hid (H1.out.setS y1)
  generalize w1.setRow (w.heap.size + 1) y1.arr = W6 at *
  have HS6 : (fun u => Eu w u nm dl A n c y1 a cm0) W6.drew := H6.out.on (Below.drew (Below.refl _ _))
  have u0 : ∀ u, (fun u => Eu w u nm dl A n c y1 a cm0) u → u.cell? ⟨w.heap.size + 1, 0, none⟩ = some (.int .i64 y1.id) := fun u H => H.e.s.cell 0
  have u1 : ∀ u, (fun u => Eu w u nm dl A n c y1 a cm0) u → u.cell? ⟨w.heap.size + 1, 1, none⟩ = some (.string y1.dn) := fun u H => H.e.s.cell 1
  have u2 : ∀ u, (fun u => Eu w u nm dl A n c y1 a cm0) u → u.cell? ⟨w.heap.size + 1, 2, none⟩ = some (.int .i64 y1.st) := fun u H => H.e.s.cell 2
  have u3 : ∀ u, (fun u => Eu w u nm dl A n c y1 a cm0) u → u.cell? ⟨w.heap.size + 1, 3, none⟩ = some (.int .i64 y1.ph) := fun u H => H.e.s.cell 3
  have u4 : ∀ u, (fun u => Eu w u nm dl A n c y1 a cm0) u → u.cell? ⟨w.heap.size + 1, 4, none⟩ = some (.int .i64 y1.sp) := fun u H => H.e.s.cell 4
  have u5 : ∀ u, (fun u => Eu w u nm dl A n c y1 a cm0) u → u.cell? ⟨w.heap.size + 1, 5, none⟩ = some (.int .i64 y1.tr) := fun u H => H.e.s.cell 5
  have u6 : ∀ u, (fun u => Eu w u nm dl A n c y1 a cm0) u → u.cell? ⟨w.heap.size + 1, 6, none⟩ = some (.bool y1.out) := fun u H => H.e.s.cell 6
  have u7 : ∀ u, (fun u => Eu w u nm dl A n c y1 a cm0) u → u.cell? ⟨w.heap.size + 1, 7, none⟩ = some (.int .i64 y1.at_) := fun u H => H.e.s.cell 7
  have u8 : ∀ u, (fun u => Eu w u nm dl A n c y1 a cm0) u → u.cell? ⟨w.heap.size + 1, 8, none⟩ = some (.int .i64 y1.sk) := fun u H => H.e.s.cell 8
  have k0 : ∀ u, (fun u => Eu w u nm dl A n c y1 a cm0) u → u.cell? ⟨w.heap.size + 5, 0, none⟩ = some (.int .i64 cm0.sg) := fun u H => H.c.cell 0
  have k1 : ∀ u, (fun u => Eu w u nm dl A n c y1 a cm0) u → u.cell? ⟨w.heap.size + 5, 1, none⟩ = some (.int .i64 cm0.sp) := fun u H => H.c.cell 1
  have k2 : ∀ u, (fun u => Eu w u nm dl A n c y1 a cm0) u → u.cell? ⟨w.heap.size + 5, 2, none⟩ = some (.bool cm0.un) := fun u H => H.c.cell 2
  have k3 : ∀ u, (fun u => Eu w u nm dl A n c y1 a cm0) u → u.cell? ⟨w.heap.size + 5, 3, none⟩ = some (.int .i64 cm0.tr) := fun u H => H.c.cell 3
  have k4 : ∀ u, (fun u => Eu w u nm dl A n c y1 a cm0) u → u.cell? ⟨w.heap.size + 5, 4, none⟩ = some (.string cm0.pt) := fun u H => H.c.cell 4
  have k5 : ∀ u, (fun u => Eu w u nm dl A n c y1 a cm0) u → u.cell? ⟨w.heap.size + 5, 5, none⟩ = some (.string cm0.key) := fun u H => H.c.cell 5
  refine wp_region_held_drew (S := fun u => Eu w u nm dl A n c y1 a cm0) (by kernel_rfl) HS6 (fun hHeld => ?_)
  refine wpAnyH_take (i := 0) (oi := ⟨some 75, _, _, _, _, _⟩) (v := ?_) rfl (by kernel_rfl) (by kernel_rfl) (by kernel_rfl) (fun _ _ _ h => h) (Or.inl ⟨by rfl, ?_⟩) (by assumption) ?_
  rotate_left
  · (intro u hu; (try dsimp only at hu); go_simp; (try with_reducible rfl))
  (try simp only [Act.put, List.setIfInBounds_toArray, List.set_cons_zero, List.set_cons_succ])
  refine wpAnyH_take (i := 1) (oi := ⟨some 76, _, _, _, _, _⟩) (v := ?_) rfl (by kernel_rfl) (by kernel_rfl) (by kernel_rfl) (fun _ _ _ h => h) (Or.inl ⟨by rfl, ?_⟩) (by assumption) ?_
  rotate_left
  · (intro u hu; (try dsimp only at hu); go_simp; (try with_reducible rfl))
  (try simp only [Act.put, List.setIfInBounds_toArray, List.set_cons_zero, List.set_cons_succ])
  refine wpAnyH_take (i := 2) (oi := ⟨some 77, _, _, _, _, _⟩) (v := ?_) rfl (by kernel_rfl) (by kernel_rfl) (by kernel_rfl) (fun _ _ _ h => h) (Or.inl ⟨by rfl, ?_⟩) (by assumption) ?_
  rotate_left
  · (intro u hu; (try dsimp only at hu); go_simp; (try with_reducible rfl))
  (try simp only [Act.put, List.setIfInBounds_toArray, List.set_cons_zero, List.set_cons_succ])
  refine wpAnyH_ready (rs := [3]) (by kernel_rfl) (by simp) ?_
  refine AllReadyH.cons (o := ⟨none, _, _, _, _, _⟩) rfl (fun K hK => ?_) AllReadyH.nil
  rw [if_pos (by rfl)]
  obtain ⟨cs, hcs, hsz⟩ := HS6.q
  refine oper_store_row 26 _ _ rfl (w.heap.size + 3) 26 cs (y1).arr rfl rfl hcs (sizeG _) hsz (oneG _) ?_
  refine hK.out _ _ ?_ (fun hHeld => ?_)
  · exact Eu.set3 HS6 _
  clear hK K hcs hsz
  (try simp only [Act.put])
  refine wpAnyH_ready (rs := [4]) (by kernel_rfl) (by simp) ?_
  refine AllReadyH.cons (o := ⟨none, _, _, _, _, _⟩) rfl (fun K hK => ?_) AllReadyH.nil
  rw [if_pos (by rfl)]
  obtain ⟨cs, hcs, hsz⟩ := (Eu.set3 HS6 _).k
  refine oper_store_row 34 _ _ rfl (w.heap.size + 4) 34 cs (cm0).arr rfl rfl hcs (sizeC _) hsz (oneC _) ?_
  refine hK.out _ _ ?_ (fun hHeld => ?_)
  · exact Eu.set4 (Eu.set3 HS6 _) _
  clear hK K hcs hsz
  (try simp only [Act.put])
  refine wpAnyH_take (i := 5) (oi := ⟨some 8, _, _, _, _, _⟩) (v := ?_) rfl (by kernel_rfl) (by kernel_rfl) (by kernel_rfl) (fun _ _ _ h => h) (Or.inl ⟨by rfl, ?_⟩) (by assumption) ?_
  rotate_left
  · (intro u hu; (try dsimp only at hu); go_simp; (try with_reducible rfl))
  (try simp only [Act.put, List.setIfInBounds_toArray, List.set_cons_zero, List.set_cons_succ])
  refine wpAnyH_done (by kernel_rfl) ?_ _
  go_wp2
  exact bodyPost_ret (res_sg_cm_tmp rfl _ _ (w.heap.size + 3) (w.heap.size + 4) y1 cm0 rfl rfl (Eu.rows HS6 y1 cm0).1 (Eu.rows HS6 y1 cm0).2.1) rfl ⟨rfl, (Eu.rows HS6 y1 cm0).2.2⟩
set_option maxRecDepth 100000 in
set_option maxHeartbeats 4000000 in
theorem tells8_any (hk : a.k = 8) : Calls Tryz.prog 8 #[.agg #[.string nm, .int .i64 dl, .slice A n c], .agg #[.int .i64 s.id, .string s.dn, .int .i64 s.st, .int .i64 s.ph, .int .i64 s.sp, .int .i64 s.tr, .bool s.out, .int .i64 s.at_, .int .i64 s.sk], .agg #[.int .i64 a.k, .int .i64 a.now, .int .i64 a.r.sg, .int .i64 a.r.sp, .bool a.r.un, .int .i64 a.r.tr, .bool a.r.good]] w fun e w' => e = .returned (.tuple #[.agg (doA nm dl ss s a).1.arr, .agg (doA nm dl ss s a).2.1.arr, .int .i64 (doA nm dl ss s a).2.2]) ∧ Below w.heap.size w w' := by
  have hX : doA nm dl ss s a = ((numA nm dl ss s (a.k - 6) a.now).1, cm0, (numA nm dl ss s (a.k - 6) a.now).2) := by
    unfold doA
    rw [if_neg (by omega), if_neg (by omega), if_pos (by omega)]
  have _hid := hid
  have HE := Lib.hid (fun W (hW : Below w.heap.size w W) => rdo_any nm dl A n c ss s W (hd.on hW) (a.k - 6) a.now ht (by omega))
  have hwk : IntKind.i64.wrap (a.k - 6) = a.k - 6 := by rw [IntKind.wrap_i64]; omega
  rw [hX]
  generalize numA nm dl ss s (a.k - 6) a.now = Y at *
  obtain ⟨y1, y2⟩ := Y
  dsimp only at HE ⊢
  clear hX
  have q0 : (a.k == 0) = false := by simp [hk]
  have q1 : (a.k == 1) = false := by simp [hk]
  have q2 : (a.k == 2) = false := by simp [hk]
  have q3 : (a.k == 3) = false := by simp [hk]
  have q4 : (a.k == 4) = false := by simp [hk]
  have q5 : (a.k == 5) = false := by simp [hk]
  have q6 : (a.k == 6) = false := by simp [hk]
  have q7 : (a.k == 7) = false := by simp [hk]
  have q8 : (a.k == 8) = true := by simp [hk]
  clear hk hd ht hid _hid
  go_enter Tryz.func8, Tryz.ntmps8
  go_wp2_with (first
    | (go_at_call 29; (with_reducible refine (HE.out _ (b6 w _ _ _ _ _ _)).mono ?_); rintro e w1 ⟨rfl, hm⟩; have H1 := Lib.hid (Eu.of (eo6 (s := s) (a := a) rfl rfl hm)); clear hm; obtain ⟨d0, d1, d2⟩ := H1.out.e.cd; obtain ⟨c0, c1, c2, c3, c4, c5, c6, c7, c8⟩ := H1.out.e.cs; obtain ⟨a0, a1, a2, a3, a4, a5, a6⟩ := H1.out.ac)
    | (obtain ⟨cs, hcs, hsz⟩ := (Box.slot H1.out.e.s rfl : Slot _ _ _ 9); refine wpList_store_row rfl 26 _ _ rfl (w.heap.size + 1) 26 cs (y1).arr rfl rfl hcs (sizeG _) hsz (oneG _) ?_))
  have H6 := Lib.hid (H1.out.setS y1)
  generalize w1.setRow (w.heap.size + 1) y1.arr = W6 at *
  have HS6 : (fun u => Eu w u nm dl A n c y1 a cm0) W6.drew := H6.out.on (Below.drew (Below.refl _ _))
  have u0 : ∀ u, (fun u => Eu w u nm dl A n c y1 a cm0) u → u.cell? ⟨w.heap.size + 1, 0, none⟩ = some (.int .i64 y1.id) := fun u H => H.e.s.cell 0
  have u1 : ∀ u, (fun u => Eu w u nm dl A n c y1 a cm0) u → u.cell? ⟨w.heap.size + 1, 1, none⟩ = some (.string y1.dn) := fun u H => H.e.s.cell 1
  have u2 : ∀ u, (fun u => Eu w u nm dl A n c y1 a cm0) u → u.cell? ⟨w.heap.size + 1, 2, none⟩ = some (.int .i64 y1.st) := fun u H => H.e.s.cell 2
  have u3 : ∀ u, (fun u => Eu w u nm dl A n c y1 a cm0) u → u.cell? ⟨w.heap.size + 1, 3, none⟩ = some (.int .i64 y1.ph) := fun u H => H.e.s.cell 3
  have u4 : ∀ u, (fun u => Eu w u nm dl A n c y1 a cm0) u → u.cell? ⟨w.heap.size + 1, 4, none⟩ = some (.int .i64 y1.sp) := fun u H => H.e.s.cell 4
  have u5 : ∀ u, (fun u => Eu w u nm dl A n c y1 a cm0) u → u.cell? ⟨w.heap.size + 1, 5, none⟩ = some (.int .i64 y1.tr) := fun u H => H.e.s.cell 5
  have u6 : ∀ u, (fun u => Eu w u nm dl A n c y1 a cm0) u → u.cell? ⟨w.heap.size + 1, 6, none⟩ = some (.bool y1.out) := fun u H => H.e.s.cell 6
  have u7 : ∀ u, (fun u => Eu w u nm dl A n c y1 a cm0) u → u.cell? ⟨w.heap.size + 1, 7, none⟩ = some (.int .i64 y1.at_) := fun u H => H.e.s.cell 7
  have u8 : ∀ u, (fun u => Eu w u nm dl A n c y1 a cm0) u → u.cell? ⟨w.heap.size + 1, 8, none⟩ = some (.int .i64 y1.sk) := fun u H => H.e.s.cell 8
  have k0 : ∀ u, (fun u => Eu w u nm dl A n c y1 a cm0) u → u.cell? ⟨w.heap.size + 5, 0, none⟩ = some (.int .i64 cm0.sg) := fun u H => H.c.cell 0
  have k1 : ∀ u, (fun u => Eu w u nm dl A n c y1 a cm0) u → u.cell? ⟨w.heap.size + 5, 1, none⟩ = some (.int .i64 cm0.sp) := fun u H => H.c.cell 1
  have k2 : ∀ u, (fun u => Eu w u nm dl A n c y1 a cm0) u → u.cell? ⟨w.heap.size + 5, 2, none⟩ = some (.bool cm0.un) := fun u H => H.c.cell 2
  have k3 : ∀ u, (fun u => Eu w u nm dl A n c y1 a cm0) u → u.cell? ⟨w.heap.size + 5, 3, none⟩ = some (.int .i64 cm0.tr) := fun u H => H.c.cell 3
  have k4 : ∀ u, (fun u => Eu w u nm dl A n c y1 a cm0) u → u.cell? ⟨w.heap.size + 5, 4, none⟩ = some (.string cm0.pt) := fun u H => H.c.cell 4
  have k5 : ∀ u, (fun u => Eu w u nm dl A n c y1 a cm0) u → u.cell? ⟨w.heap.size + 5, 5, none⟩ = some (.string cm0.key) := fun u H => H.c.cell 5
  refine wp_region_held_drew (S := fun u => Eu w u nm dl A n c y1 a cm0) (by kernel_rfl) HS6 (fun hHeld => ?_)
  refine wpAnyH_take (i := 0) (oi := ⟨some 75, _, _, _, _, _⟩) (v := ?_) rfl (by kernel_rfl) (by kernel_rfl) (by kernel_rfl) (fun _ _ _ h => h) (Or.inl ⟨by rfl, ?_⟩) (by assumption) ?_
  rotate_left
  · (intro u hu; (try dsimp only at hu); go_simp; (try with_reducible rfl))
  (try simp only [Act.put, List.setIfInBounds_toArray, List.set_cons_zero, List.set_cons_succ])
  refine wpAnyH_take (i := 1) (oi := ⟨some 76, _, _, _, _, _⟩) (v := ?_) rfl (by kernel_rfl) (by kernel_rfl) (by kernel_rfl) (fun _ _ _ h => h) (Or.inl ⟨by rfl, ?_⟩) (by assumption) ?_
  rotate_left
  · (intro u hu; (try dsimp only at hu); go_simp; (try with_reducible rfl))
  (try simp only [Act.put, List.setIfInBounds_toArray, List.set_cons_zero, List.set_cons_succ])
  refine wpAnyH_take (i := 2) (oi := ⟨some 77, _, _, _, _, _⟩) (v := ?_) rfl (by kernel_rfl) (by kernel_rfl) (by kernel_rfl) (fun _ _ _ h => h) (Or.inl ⟨by rfl, ?_⟩) (by assumption) ?_
  rotate_left
  · (intro u hu; (try dsimp only at hu); go_simp; (try with_reducible rfl))
  (try simp only [Act.put, List.setIfInBounds_toArray, List.set_cons_zero, List.set_cons_succ])
  refine wpAnyH_ready (rs := [3]) (by kernel_rfl) (by simp) ?_
  refine AllReadyH.cons (o := ⟨none, _, _, _, _, _⟩) rfl (fun K hK => ?_) AllReadyH.nil
  rw [if_pos (by rfl)]
  obtain ⟨cs, hcs, hsz⟩ := HS6.q
  refine oper_store_row 26 _ _ rfl (w.heap.size + 3) 26 cs (y1).arr rfl rfl hcs (sizeG _) hsz (oneG _) ?_
  refine hK.out _ _ ?_ (fun hHeld => ?_)
  · exact Eu.set3 HS6 _
  clear hK K hcs hsz
  (try simp only [Act.put])
  refine wpAnyH_ready (rs := [4]) (by kernel_rfl) (by simp) ?_
  refine AllReadyH.cons (o := ⟨none, _, _, _, _, _⟩) rfl (fun K hK => ?_) AllReadyH.nil
  rw [if_pos (by rfl)]
  obtain ⟨cs, hcs, hsz⟩ := (Eu.set3 HS6 _).k
  refine oper_store_row 34 _ _ rfl (w.heap.size + 4) 34 cs (cm0).arr rfl rfl hcs (sizeC _) hsz (oneC _) ?_
  refine hK.out _ _ ?_ (fun hHeld => ?_)
  · exact Eu.set4 (Eu.set3 HS6 _) _
  clear hK K hcs hsz
  (try simp only [Act.put])
  refine wpAnyH_take (i := 5) (oi := ⟨some 8, _, _, _, _, _⟩) (v := ?_) rfl (by kernel_rfl) (by kernel_rfl) (by kernel_rfl) (fun _ _ _ h => h) (Or.inl ⟨by rfl, ?_⟩) (by assumption) ?_
  rotate_left
  · (intro u hu; (try dsimp only at hu); go_simp; (try with_reducible rfl))
  (try simp only [Act.put, List.setIfInBounds_toArray, List.set_cons_zero, List.set_cons_succ])
  refine wpAnyH_done (by kernel_rfl) ?_ _
  go_wp2
  exact bodyPost_ret (res_sg_cm_tmp rfl _ _ (w.heap.size + 3) (w.heap.size + 4) y1 cm0 rfl rfl (Eu.rows HS6 y1 cm0).1 (Eu.rows HS6 y1 cm0).2.1) rfl ⟨rfl, (Eu.rows HS6 y1 cm0).2.2⟩
set_option maxRecDepth 100000 in
set_option maxHeartbeats 4000000 in
theorem tells9_any (hk : a.k = 9) : Calls Tryz.prog 8 #[.agg #[.string nm, .int .i64 dl, .slice A n c], .agg #[.int .i64 s.id, .string s.dn, .int .i64 s.st, .int .i64 s.ph, .int .i64 s.sp, .int .i64 s.tr, .bool s.out, .int .i64 s.at_, .int .i64 s.sk], .agg #[.int .i64 a.k, .int .i64 a.now, .int .i64 a.r.sg, .int .i64 a.r.sp, .bool a.r.un, .int .i64 a.r.tr, .bool a.r.good]] w fun e w' => e = .returned (.tuple #[.agg (doA nm dl ss s a).1.arr, .agg (doA nm dl ss s a).2.1.arr, .int .i64 (doA nm dl ss s a).2.2]) ∧ Below w.heap.size w w' := by
  have hX : doA nm dl ss s a = ((numA nm dl ss s (a.k - 6) a.now).1, cm0, (numA nm dl ss s (a.k - 6) a.now).2) := by
    unfold doA
    rw [if_neg (by omega), if_neg (by omega), if_pos (by omega)]
  have _hid := hid
  have HE := Lib.hid (fun W (hW : Below w.heap.size w W) => rdo_any nm dl A n c ss s W (hd.on hW) (a.k - 6) a.now ht (by omega))
  have hwk : IntKind.i64.wrap (a.k - 6) = a.k - 6 := by rw [IntKind.wrap_i64]; omega
  rw [hX]
  generalize numA nm dl ss s (a.k - 6) a.now = Y at *
  obtain ⟨y1, y2⟩ := Y
  dsimp only at HE ⊢
  clear hX
  have q0 : (a.k == 0) = false := by simp [hk]
  have q1 : (a.k == 1) = false := by simp [hk]
  have q2 : (a.k == 2) = false := by simp [hk]
  have q3 : (a.k == 3) = false := by simp [hk]
  have q4 : (a.k == 4) = false := by simp [hk]
  have q5 : (a.k == 5) = false := by simp [hk]
  have q6 : (a.k == 6) = false := by simp [hk]
  have q7 : (a.k == 7) = false := by simp [hk]
  have q8 : (a.k == 8) = false := by simp [hk]
  have q9 : (a.k == 9) = true := by simp [hk]
  clear hk hd ht hid _hid
  go_enter Tryz.func8, Tryz.ntmps8
  go_wp2_with (first
    | (go_at_call 29; (with_reducible refine (HE.out _ (b6 w _ _ _ _ _ _)).mono ?_); rintro e w1 ⟨rfl, hm⟩; have H1 := Lib.hid (Eu.of (eo6 (s := s) (a := a) rfl rfl hm)); clear hm; obtain ⟨d0, d1, d2⟩ := H1.out.e.cd; obtain ⟨c0, c1, c2, c3, c4, c5, c6, c7, c8⟩ := H1.out.e.cs; obtain ⟨a0, a1, a2, a3, a4, a5, a6⟩ := H1.out.ac)
    | (obtain ⟨cs, hcs, hsz⟩ := (Box.slot H1.out.e.s rfl : Slot _ _ _ 9); refine wpList_store_row rfl 26 _ _ rfl (w.heap.size + 1) 26 cs (y1).arr rfl rfl hcs (sizeG _) hsz (oneG _) ?_))
  have H6 := Lib.hid (H1.out.setS y1)
  generalize w1.setRow (w.heap.size + 1) y1.arr = W6 at *
  have HS6 : (fun u => Eu w u nm dl A n c y1 a cm0) W6.drew := H6.out.on (Below.drew (Below.refl _ _))
  have u0 : ∀ u, (fun u => Eu w u nm dl A n c y1 a cm0) u → u.cell? ⟨w.heap.size + 1, 0, none⟩ = some (.int .i64 y1.id) := fun u H => H.e.s.cell 0
  have u1 : ∀ u, (fun u => Eu w u nm dl A n c y1 a cm0) u → u.cell? ⟨w.heap.size + 1, 1, none⟩ = some (.string y1.dn) := fun u H => H.e.s.cell 1
  have u2 : ∀ u, (fun u => Eu w u nm dl A n c y1 a cm0) u → u.cell? ⟨w.heap.size + 1, 2, none⟩ = some (.int .i64 y1.st) := fun u H => H.e.s.cell 2
  have u3 : ∀ u, (fun u => Eu w u nm dl A n c y1 a cm0) u → u.cell? ⟨w.heap.size + 1, 3, none⟩ = some (.int .i64 y1.ph) := fun u H => H.e.s.cell 3
  have u4 : ∀ u, (fun u => Eu w u nm dl A n c y1 a cm0) u → u.cell? ⟨w.heap.size + 1, 4, none⟩ = some (.int .i64 y1.sp) := fun u H => H.e.s.cell 4
  have u5 : ∀ u, (fun u => Eu w u nm dl A n c y1 a cm0) u → u.cell? ⟨w.heap.size + 1, 5, none⟩ = some (.int .i64 y1.tr) := fun u H => H.e.s.cell 5
  have u6 : ∀ u, (fun u => Eu w u nm dl A n c y1 a cm0) u → u.cell? ⟨w.heap.size + 1, 6, none⟩ = some (.bool y1.out) := fun u H => H.e.s.cell 6
  have u7 : ∀ u, (fun u => Eu w u nm dl A n c y1 a cm0) u → u.cell? ⟨w.heap.size + 1, 7, none⟩ = some (.int .i64 y1.at_) := fun u H => H.e.s.cell 7
  have u8 : ∀ u, (fun u => Eu w u nm dl A n c y1 a cm0) u → u.cell? ⟨w.heap.size + 1, 8, none⟩ = some (.int .i64 y1.sk) := fun u H => H.e.s.cell 8
  have k0 : ∀ u, (fun u => Eu w u nm dl A n c y1 a cm0) u → u.cell? ⟨w.heap.size + 5, 0, none⟩ = some (.int .i64 cm0.sg) := fun u H => H.c.cell 0
  have k1 : ∀ u, (fun u => Eu w u nm dl A n c y1 a cm0) u → u.cell? ⟨w.heap.size + 5, 1, none⟩ = some (.int .i64 cm0.sp) := fun u H => H.c.cell 1
  have k2 : ∀ u, (fun u => Eu w u nm dl A n c y1 a cm0) u → u.cell? ⟨w.heap.size + 5, 2, none⟩ = some (.bool cm0.un) := fun u H => H.c.cell 2
  have k3 : ∀ u, (fun u => Eu w u nm dl A n c y1 a cm0) u → u.cell? ⟨w.heap.size + 5, 3, none⟩ = some (.int .i64 cm0.tr) := fun u H => H.c.cell 3
  have k4 : ∀ u, (fun u => Eu w u nm dl A n c y1 a cm0) u → u.cell? ⟨w.heap.size + 5, 4, none⟩ = some (.string cm0.pt) := fun u H => H.c.cell 4
  have k5 : ∀ u, (fun u => Eu w u nm dl A n c y1 a cm0) u → u.cell? ⟨w.heap.size + 5, 5, none⟩ = some (.string cm0.key) := fun u H => H.c.cell 5
  refine wp_region_held_drew (S := fun u => Eu w u nm dl A n c y1 a cm0) (by kernel_rfl) HS6 (fun hHeld => ?_)
  refine wpAnyH_take (i := 0) (oi := ⟨some 75, _, _, _, _, _⟩) (v := ?_) rfl (by kernel_rfl) (by kernel_rfl) (by kernel_rfl) (fun _ _ _ h => h) (Or.inl ⟨by rfl, ?_⟩) (by assumption) ?_
  rotate_left
  · (intro u hu; (try dsimp only at hu); go_simp; (try with_reducible rfl))
  (try simp only [Act.put, List.setIfInBounds_toArray, List.set_cons_zero, List.set_cons_succ])
  refine wpAnyH_take (i := 1) (oi := ⟨some 76, _, _, _, _, _⟩) (v := ?_) rfl (by kernel_rfl) (by kernel_rfl) (by kernel_rfl) (fun _ _ _ h => h) (Or.inl ⟨by rfl, ?_⟩) (by assumption) ?_
  rotate_left
  · (intro u hu; (try dsimp only at hu); go_simp; (try with_reducible rfl))
  (try simp only [Act.put, List.setIfInBounds_toArray, List.set_cons_zero, List.set_cons_succ])
  refine wpAnyH_take (i := 2) (oi := ⟨some 77, _, _, _, _, _⟩) (v := ?_) rfl (by kernel_rfl) (by kernel_rfl) (by kernel_rfl) (fun _ _ _ h => h) (Or.inl ⟨by rfl, ?_⟩) (by assumption) ?_
  rotate_left
  · (intro u hu; (try dsimp only at hu); go_simp; (try with_reducible rfl))
  (try simp only [Act.put, List.setIfInBounds_toArray, List.set_cons_zero, List.set_cons_succ])
  refine wpAnyH_ready (rs := [3]) (by kernel_rfl) (by simp) ?_
  refine AllReadyH.cons (o := ⟨none, _, _, _, _, _⟩) rfl (fun K hK => ?_) AllReadyH.nil
  rw [if_pos (by rfl)]
  obtain ⟨cs, hcs, hsz⟩ := HS6.q
  refine oper_store_row 26 _ _ rfl (w.heap.size + 3) 26 cs (y1).arr rfl rfl hcs (sizeG _) hsz (oneG _) ?_
  refine hK.out _ _ ?_ (fun hHeld => ?_)
  · exact Eu.set3 HS6 _
  clear hK K hcs hsz
  (try simp only [Act.put])
  refine wpAnyH_ready (rs := [4]) (by kernel_rfl) (by simp) ?_
  refine AllReadyH.cons (o := ⟨none, _, _, _, _, _⟩) rfl (fun K hK => ?_) AllReadyH.nil
  rw [if_pos (by rfl)]
  obtain ⟨cs, hcs, hsz⟩ := (Eu.set3 HS6 _).k
  refine oper_store_row 34 _ _ rfl (w.heap.size + 4) 34 cs (cm0).arr rfl rfl hcs (sizeC _) hsz (oneC _) ?_
  refine hK.out _ _ ?_ (fun hHeld => ?_)
  · exact Eu.set4 (Eu.set3 HS6 _) _
  clear hK K hcs hsz
  (try simp only [Act.put])
  refine wpAnyH_take (i := 5) (oi := ⟨some 8, _, _, _, _, _⟩) (v := ?_) rfl (by kernel_rfl) (by kernel_rfl) (by kernel_rfl) (fun _ _ _ h => h) (Or.inl ⟨by rfl, ?_⟩) (by assumption) ?_
  rotate_left
  · (intro u hu; (try dsimp only at hu); go_simp; (try with_reducible rfl))
  (try simp only [Act.put, List.setIfInBounds_toArray, List.set_cons_zero, List.set_cons_succ])
  refine wpAnyH_done (by kernel_rfl) ?_ _
  go_wp2
  exact bodyPost_ret (res_sg_cm_tmp rfl _ _ (w.heap.size + 3) (w.heap.size + 4) y1 cm0 rfl rfl (Eu.rows HS6 y1 cm0).1 (Eu.rows HS6 y1 cm0).2.1) rfl ⟨rfl, (Eu.rows HS6 y1 cm0).2.2⟩
set_option maxRecDepth 100000 in
set_option maxHeartbeats 4000000 in
theorem tells10_any (hk : a.k = 10) : Calls Tryz.prog 8 #[.agg #[.string nm, .int .i64 dl, .slice A n c], .agg #[.int .i64 s.id, .string s.dn, .int .i64 s.st, .int .i64 s.ph, .int .i64 s.sp, .int .i64 s.tr, .bool s.out, .int .i64 s.at_, .int .i64 s.sk], .agg #[.int .i64 a.k, .int .i64 a.now, .int .i64 a.r.sg, .int .i64 a.r.sp, .bool a.r.un, .int .i64 a.r.tr, .bool a.r.good]] w fun e w' => e = .returned (.tuple #[.agg (doA nm dl ss s a).1.arr, .agg (doA nm dl ss s a).2.1.arr, .int .i64 (doA nm dl ss s a).2.2]) ∧ Below w.heap.size w w' := by
  have hX : doA nm dl ss s a = ((numA nm dl ss s (a.k - 6) a.now).1, cm0, (numA nm dl ss s (a.k - 6) a.now).2) := by
    unfold doA
    rw [if_neg (by omega), if_neg (by omega), if_pos (by omega)]
  have _hid := hid
  have HE := Lib.hid (fun W (hW : Below w.heap.size w W) => rdo_any nm dl A n c ss s W (hd.on hW) (a.k - 6) a.now ht (by omega))
  have hwk : IntKind.i64.wrap (a.k - 6) = a.k - 6 := by rw [IntKind.wrap_i64]; omega
  rw [hX]
  generalize numA nm dl ss s (a.k - 6) a.now = Y at *
  obtain ⟨y1, y2⟩ := Y
  dsimp only at HE ⊢
  clear hX
  have q0 : (a.k == 0) = false := by simp [hk]
  have q1 : (a.k == 1) = false := by simp [hk]
  have q2 : (a.k == 2) = false := by simp [hk]
  have q3 : (a.k == 3) = false := by simp [hk]
  have q4 : (a.k == 4) = false := by simp [hk]
  have q5 : (a.k == 5) = false := by simp [hk]
  have q6 : (a.k == 6) = false := by simp [hk]
  have q7 : (a.k == 7) = false := by simp [hk]
  have q8 : (a.k == 8) = false := by simp [hk]
  have q9 : (a.k == 9) = false := by simp [hk]
  have q10 : (a.k == 10) = true := by simp [hk]
  clear hk hd ht hid _hid
  go_enter Tryz.func8, Tryz.ntmps8
  go_wp2_with (first
    | (go_at_call 29; (with_reducible refine (HE.out _ (b6 w _ _ _ _ _ _)).mono ?_); rintro e w1 ⟨rfl, hm⟩; have H1 := Lib.hid (Eu.of (eo6 (s := s) (a := a) rfl rfl hm)); clear hm; obtain ⟨d0, d1, d2⟩ := H1.out.e.cd; obtain ⟨c0, c1, c2, c3, c4, c5, c6, c7, c8⟩ := H1.out.e.cs; obtain ⟨a0, a1, a2, a3, a4, a5, a6⟩ := H1.out.ac)
    | (obtain ⟨cs, hcs, hsz⟩ := (Box.slot H1.out.e.s rfl : Slot _ _ _ 9); refine wpList_store_row rfl 26 _ _ rfl (w.heap.size + 1) 26 cs (y1).arr rfl rfl hcs (sizeG _) hsz (oneG _) ?_))
  have H6 := Lib.hid (H1.out.setS y1)
  generalize w1.setRow (w.heap.size + 1) y1.arr = W6 at *
  have HS6 : (fun u => Eu w u nm dl A n c y1 a cm0) W6.drew := H6.out.on (Below.drew (Below.refl _ _))
  have u0 : ∀ u, (fun u => Eu w u nm dl A n c y1 a cm0) u → u.cell? ⟨w.heap.size + 1, 0, none⟩ = some (.int .i64 y1.id) := fun u H => H.e.s.cell 0
  have u1 : ∀ u, (fun u => Eu w u nm dl A n c y1 a cm0) u → u.cell? ⟨w.heap.size + 1, 1, none⟩ = some (.string y1.dn) := fun u H => H.e.s.cell 1
  have u2 : ∀ u, (fun u => Eu w u nm dl A n c y1 a cm0) u → u.cell? ⟨w.heap.size + 1, 2, none⟩ = some (.int .i64 y1.st) := fun u H => H.e.s.cell 2
  have u3 : ∀ u, (fun u => Eu w u nm dl A n c y1 a cm0) u → u.cell? ⟨w.heap.size + 1, 3, none⟩ = some (.int .i64 y1.ph) := fun u H => H.e.s.cell 3
  have u4 : ∀ u, (fun u => Eu w u nm dl A n c y1 a cm0) u → u.cell? ⟨w.heap.size + 1, 4, none⟩ = some (.int .i64 y1.sp) := fun u H => H.e.s.cell 4
  have u5 : ∀ u, (fun u => Eu w u nm dl A n c y1 a cm0) u → u.cell? ⟨w.heap.size + 1, 5, none⟩ = some (.int .i64 y1.tr) := fun u H => H.e.s.cell 5
  have u6 : ∀ u, (fun u => Eu w u nm dl A n c y1 a cm0) u → u.cell? ⟨w.heap.size + 1, 6, none⟩ = some (.bool y1.out) := fun u H => H.e.s.cell 6
  have u7 : ∀ u, (fun u => Eu w u nm dl A n c y1 a cm0) u → u.cell? ⟨w.heap.size + 1, 7, none⟩ = some (.int .i64 y1.at_) := fun u H => H.e.s.cell 7
  have u8 : ∀ u, (fun u => Eu w u nm dl A n c y1 a cm0) u → u.cell? ⟨w.heap.size + 1, 8, none⟩ = some (.int .i64 y1.sk) := fun u H => H.e.s.cell 8
  have k0 : ∀ u, (fun u => Eu w u nm dl A n c y1 a cm0) u → u.cell? ⟨w.heap.size + 5, 0, none⟩ = some (.int .i64 cm0.sg) := fun u H => H.c.cell 0
  have k1 : ∀ u, (fun u => Eu w u nm dl A n c y1 a cm0) u → u.cell? ⟨w.heap.size + 5, 1, none⟩ = some (.int .i64 cm0.sp) := fun u H => H.c.cell 1
  have k2 : ∀ u, (fun u => Eu w u nm dl A n c y1 a cm0) u → u.cell? ⟨w.heap.size + 5, 2, none⟩ = some (.bool cm0.un) := fun u H => H.c.cell 2
  have k3 : ∀ u, (fun u => Eu w u nm dl A n c y1 a cm0) u → u.cell? ⟨w.heap.size + 5, 3, none⟩ = some (.int .i64 cm0.tr) := fun u H => H.c.cell 3
  have k4 : ∀ u, (fun u => Eu w u nm dl A n c y1 a cm0) u → u.cell? ⟨w.heap.size + 5, 4, none⟩ = some (.string cm0.pt) := fun u H => H.c.cell 4
  have k5 : ∀ u, (fun u => Eu w u nm dl A n c y1 a cm0) u → u.cell? ⟨w.heap.size + 5, 5, none⟩ = some (.string cm0.key) := fun u H => H.c.cell 5
  refine wp_region_held_drew (S := fun u => Eu w u nm dl A n c y1 a cm0) (by kernel_rfl) HS6 (fun hHeld => ?_)
  refine wpAnyH_take (i := 0) (oi := ⟨some 75, _, _, _, _, _⟩) (v := ?_) rfl (by kernel_rfl) (by kernel_rfl) (by kernel_rfl) (fun _ _ _ h => h) (Or.inl ⟨by rfl, ?_⟩) (by assumption) ?_
  rotate_left
  · (intro u hu; (try dsimp only at hu); go_simp; (try with_reducible rfl))
  (try simp only [Act.put, List.setIfInBounds_toArray, List.set_cons_zero, List.set_cons_succ])
  refine wpAnyH_take (i := 1) (oi := ⟨some 76, _, _, _, _, _⟩) (v := ?_) rfl (by kernel_rfl) (by kernel_rfl) (by kernel_rfl) (fun _ _ _ h => h) (Or.inl ⟨by rfl, ?_⟩) (by assumption) ?_
  rotate_left
  · (intro u hu; (try dsimp only at hu); go_simp; (try with_reducible rfl))
  (try simp only [Act.put, List.setIfInBounds_toArray, List.set_cons_zero, List.set_cons_succ])
  refine wpAnyH_take (i := 2) (oi := ⟨some 77, _, _, _, _, _⟩) (v := ?_) rfl (by kernel_rfl) (by kernel_rfl) (by kernel_rfl) (fun _ _ _ h => h) (Or.inl ⟨by rfl, ?_⟩) (by assumption) ?_
  rotate_left
  · (intro u hu; (try dsimp only at hu); go_simp; (try with_reducible rfl))
  (try simp only [Act.put, List.setIfInBounds_toArray, List.set_cons_zero, List.set_cons_succ])
  refine wpAnyH_ready (rs := [3]) (by kernel_rfl) (by simp) ?_
  refine AllReadyH.cons (o := ⟨none, _, _, _, _, _⟩) rfl (fun K hK => ?_) AllReadyH.nil
  rw [if_pos (by rfl)]
  obtain ⟨cs, hcs, hsz⟩ := HS6.q
  refine oper_store_row 26 _ _ rfl (w.heap.size + 3) 26 cs (y1).arr rfl rfl hcs (sizeG _) hsz (oneG _) ?_
  refine hK.out _ _ ?_ (fun hHeld => ?_)
  · exact Eu.set3 HS6 _
  clear hK K hcs hsz
  (try simp only [Act.put])
  refine wpAnyH_ready (rs := [4]) (by kernel_rfl) (by simp) ?_
  refine AllReadyH.cons (o := ⟨none, _, _, _, _, _⟩) rfl (fun K hK => ?_) AllReadyH.nil
  rw [if_pos (by rfl)]
  obtain ⟨cs, hcs, hsz⟩ := (Eu.set3 HS6 _).k
  refine oper_store_row 34 _ _ rfl (w.heap.size + 4) 34 cs (cm0).arr rfl rfl hcs (sizeC _) hsz (oneC _) ?_
  refine hK.out _ _ ?_ (fun hHeld => ?_)
  · exact Eu.set4 (Eu.set3 HS6 _) _
  clear hK K hcs hsz
  (try simp only [Act.put])
  refine wpAnyH_take (i := 5) (oi := ⟨some 8, _, _, _, _, _⟩) (v := ?_) rfl (by kernel_rfl) (by kernel_rfl) (by kernel_rfl) (fun _ _ _ h => h) (Or.inl ⟨by rfl, ?_⟩) (by assumption) ?_
  rotate_left
  · (intro u hu; (try dsimp only at hu); go_simp; (try with_reducible rfl))
  (try simp only [Act.put, List.setIfInBounds_toArray, List.set_cons_zero, List.set_cons_succ])
  refine wpAnyH_done (by kernel_rfl) ?_ _
  go_wp2
  exact bodyPost_ret (res_sg_cm_tmp rfl _ _ (w.heap.size + 3) (w.heap.size + 4) y1 cm0 rfl rfl (Eu.rows HS6 y1 cm0).1 (Eu.rows HS6 y1 cm0).2.1) rfl ⟨rfl, (Eu.rows HS6 y1 cm0).2.2⟩
set_option maxRecDepth 100000 in
set_option maxHeartbeats 4000000 in
theorem tells11_any (hk : a.k = 11) : Calls Tryz.prog 8 #[.agg #[.string nm, .int .i64 dl, .slice A n c], .agg #[.int .i64 s.id, .string s.dn, .int .i64 s.st, .int .i64 s.ph, .int .i64 s.sp, .int .i64 s.tr, .bool s.out, .int .i64 s.at_, .int .i64 s.sk], .agg #[.int .i64 a.k, .int .i64 a.now, .int .i64 a.r.sg, .int .i64 a.r.sp, .bool a.r.un, .int .i64 a.r.tr, .bool a.r.good]] w fun e w' => e = .returned (.tuple #[.agg (doA nm dl ss s a).1.arr, .agg (doA nm dl ss s a).2.1.arr, .int .i64 (doA nm dl ss s a).2.2]) ∧ Below w.heap.size w w' := by
  have hX : doA nm dl ss s a = ((numA nm dl ss s (a.k - 6) a.now).1, cm0, (numA nm dl ss s (a.k - 6) a.now).2) := by
    unfold doA
    rw [if_neg (by omega), if_neg (by omega), if_pos (by omega)]
  have _hid := hid
  have HE := Lib.hid (fun W (hW : Below w.heap.size w W) => rdo_any nm dl A n c ss s W (hd.on hW) (a.k - 6) a.now ht (by omega))
  have hwk : IntKind.i64.wrap (a.k - 6) = a.k - 6 := by rw [IntKind.wrap_i64]; omega
  rw [hX]
  generalize numA nm dl ss s (a.k - 6) a.now = Y at *
  obtain ⟨y1, y2⟩ := Y
  dsimp only at HE ⊢
  clear hX
  have q0 : (a.k == 0) = false := by simp [hk]
  have q1 : (a.k == 1) = false := by simp [hk]
  have q2 : (a.k == 2) = false := by simp [hk]
  have q3 : (a.k == 3) = false := by simp [hk]
  have q4 : (a.k == 4) = false := by simp [hk]
  have q5 : (a.k == 5) = false := by simp [hk]
  have q6 : (a.k == 6) = false := by simp [hk]
  have q7 : (a.k == 7) = false := by simp [hk]
  have q8 : (a.k == 8) = false := by simp [hk]
  have q9 : (a.k == 9) = false := by simp [hk]
  have q10 : (a.k == 10) = false := by simp [hk]
  have q11 : (a.k == 11) = true := by simp [hk]
  clear hk hd ht hid _hid
  go_enter Tryz.func8, Tryz.ntmps8
  go_wp2_with (first
    | (go_at_call 29; (with_reducible refine (HE.out _ (b6 w _ _ _ _ _ _)).mono ?_); rintro e w1 ⟨rfl, hm⟩; have H1 := Lib.hid (Eu.of (eo6 (s := s) (a := a) rfl rfl hm)); clear hm; obtain ⟨d0, d1, d2⟩ := H1.out.e.cd; obtain ⟨c0, c1, c2, c3, c4, c5, c6, c7, c8⟩ := H1.out.e.cs; obtain ⟨a0, a1, a2, a3, a4, a5, a6⟩ := H1.out.ac)
    | (obtain ⟨cs, hcs, hsz⟩ := (Box.slot H1.out.e.s rfl : Slot _ _ _ 9); refine wpList_store_row rfl 26 _ _ rfl (w.heap.size + 1) 26 cs (y1).arr rfl rfl hcs (sizeG _) hsz (oneG _) ?_))
  have H6 := Lib.hid (H1.out.setS y1)
  generalize w1.setRow (w.heap.size + 1) y1.arr = W6 at *
  have HS6 : (fun u => Eu w u nm dl A n c y1 a cm0) W6.drew := H6.out.on (Below.drew (Below.refl _ _))
  have u0 : ∀ u, (fun u => Eu w u nm dl A n c y1 a cm0) u → u.cell? ⟨w.heap.size + 1, 0, none⟩ = some (.int .i64 y1.id) := fun u H => H.e.s.cell 0
  have u1 : ∀ u, (fun u => Eu w u nm dl A n c y1 a cm0) u → u.cell? ⟨w.heap.size + 1, 1, none⟩ = some (.string y1.dn) := fun u H => H.e.s.cell 1
  have u2 : ∀ u, (fun u => Eu w u nm dl A n c y1 a cm0) u → u.cell? ⟨w.heap.size + 1, 2, none⟩ = some (.int .i64 y1.st) := fun u H => H.e.s.cell 2
  have u3 : ∀ u, (fun u => Eu w u nm dl A n c y1 a cm0) u → u.cell? ⟨w.heap.size + 1, 3, none⟩ = some (.int .i64 y1.ph) := fun u H => H.e.s.cell 3
  have u4 : ∀ u, (fun u => Eu w u nm dl A n c y1 a cm0) u → u.cell? ⟨w.heap.size + 1, 4, none⟩ = some (.int .i64 y1.sp) := fun u H => H.e.s.cell 4
  have u5 : ∀ u, (fun u => Eu w u nm dl A n c y1 a cm0) u → u.cell? ⟨w.heap.size + 1, 5, none⟩ = some (.int .i64 y1.tr) := fun u H => H.e.s.cell 5
  have u6 : ∀ u, (fun u => Eu w u nm dl A n c y1 a cm0) u → u.cell? ⟨w.heap.size + 1, 6, none⟩ = some (.bool y1.out) := fun u H => H.e.s.cell 6
  have u7 : ∀ u, (fun u => Eu w u nm dl A n c y1 a cm0) u → u.cell? ⟨w.heap.size + 1, 7, none⟩ = some (.int .i64 y1.at_) := fun u H => H.e.s.cell 7
  have u8 : ∀ u, (fun u => Eu w u nm dl A n c y1 a cm0) u → u.cell? ⟨w.heap.size + 1, 8, none⟩ = some (.int .i64 y1.sk) := fun u H => H.e.s.cell 8
  have k0 : ∀ u, (fun u => Eu w u nm dl A n c y1 a cm0) u → u.cell? ⟨w.heap.size + 5, 0, none⟩ = some (.int .i64 cm0.sg) := fun u H => H.c.cell 0
  have k1 : ∀ u, (fun u => Eu w u nm dl A n c y1 a cm0) u → u.cell? ⟨w.heap.size + 5, 1, none⟩ = some (.int .i64 cm0.sp) := fun u H => H.c.cell 1
  have k2 : ∀ u, (fun u => Eu w u nm dl A n c y1 a cm0) u → u.cell? ⟨w.heap.size + 5, 2, none⟩ = some (.bool cm0.un) := fun u H => H.c.cell 2
  have k3 : ∀ u, (fun u => Eu w u nm dl A n c y1 a cm0) u → u.cell? ⟨w.heap.size + 5, 3, none⟩ = some (.int .i64 cm0.tr) := fun u H => H.c.cell 3
  have k4 : ∀ u, (fun u => Eu w u nm dl A n c y1 a cm0) u → u.cell? ⟨w.heap.size + 5, 4, none⟩ = some (.string cm0.pt) := fun u H => H.c.cell 4
  have k5 : ∀ u, (fun u => Eu w u nm dl A n c y1 a cm0) u → u.cell? ⟨w.heap.size + 5, 5, none⟩ = some (.string cm0.key) := fun u H => H.c.cell 5
  refine wp_region_held_drew (S := fun u => Eu w u nm dl A n c y1 a cm0) (by kernel_rfl) HS6 (fun hHeld => ?_)
  refine wpAnyH_take (i := 0) (oi := ⟨some 75, _, _, _, _, _⟩) (v := ?_) rfl (by kernel_rfl) (by kernel_rfl) (by kernel_rfl) (fun _ _ _ h => h) (Or.inl ⟨by rfl, ?_⟩) (by assumption) ?_
  rotate_left
  · (intro u hu; (try dsimp only at hu); go_simp; (try with_reducible rfl))
  (try simp only [Act.put, List.setIfInBounds_toArray, List.set_cons_zero, List.set_cons_succ])
  refine wpAnyH_take (i := 1) (oi := ⟨some 76, _, _, _, _, _⟩) (v := ?_) rfl (by kernel_rfl) (by kernel_rfl) (by kernel_rfl) (fun _ _ _ h => h) (Or.inl ⟨by rfl, ?_⟩) (by assumption) ?_
  rotate_left
  · (intro u hu; (try dsimp only at hu); go_simp; (try with_reducible rfl))
  (try simp only [Act.put, List.setIfInBounds_toArray, List.set_cons_zero, List.set_cons_succ])
  refine wpAnyH_take (i := 2) (oi := ⟨some 77, _, _, _, _, _⟩) (v := ?_) rfl (by kernel_rfl) (by kernel_rfl) (by kernel_rfl) (fun _ _ _ h => h) (Or.inl ⟨by rfl, ?_⟩) (by assumption) ?_
  rotate_left
  · (intro u hu; (try dsimp only at hu); go_simp; (try with_reducible rfl))
  (try simp only [Act.put, List.setIfInBounds_toArray, List.set_cons_zero, List.set_cons_succ])
  refine wpAnyH_ready (rs := [3]) (by kernel_rfl) (by simp) ?_
  refine AllReadyH.cons (o := ⟨none, _, _, _, _, _⟩) rfl (fun K hK => ?_) AllReadyH.nil
  rw [if_pos (by rfl)]
  obtain ⟨cs, hcs, hsz⟩ := HS6.q
  refine oper_store_row 26 _ _ rfl (w.heap.size + 3) 26 cs (y1).arr rfl rfl hcs (sizeG _) hsz (oneG _) ?_
  refine hK.out _ _ ?_ (fun hHeld => ?_)
  · exact Eu.set3 HS6 _
  clear hK K hcs hsz
  (try simp only [Act.put])
  refine wpAnyH_ready (rs := [4]) (by kernel_rfl) (by simp) ?_
  refine AllReadyH.cons (o := ⟨none, _, _, _, _, _⟩) rfl (fun K hK => ?_) AllReadyH.nil
  rw [if_pos (by rfl)]
  obtain ⟨cs, hcs, hsz⟩ := (Eu.set3 HS6 _).k
  refine oper_store_row 34 _ _ rfl (w.heap.size + 4) 34 cs (cm0).arr rfl rfl hcs (sizeC _) hsz (oneC _) ?_
  refine hK.out _ _ ?_ (fun hHeld => ?_)
  · exact Eu.set4 (Eu.set3 HS6 _) _
  clear hK K hcs hsz
  (try simp only [Act.put])
  refine wpAnyH_take (i := 5) (oi := ⟨some 8, _, _, _, _, _⟩) (v := ?_) rfl (by kernel_rfl) (by kernel_rfl) (by kernel_rfl) (fun _ _ _ h => h) (Or.inl ⟨by rfl, ?_⟩) (by assumption) ?_
  rotate_left
  · (intro u hu; (try dsimp only at hu); go_simp; (try with_reducible rfl))
  (try simp only [Act.put, List.setIfInBounds_toArray, List.set_cons_zero, List.set_cons_succ])
  refine wpAnyH_done (by kernel_rfl) ?_ _
  go_wp2
  exact bodyPost_ret (res_sg_cm_tmp rfl _ _ (w.heap.size + 3) (w.heap.size + 4) y1 cm0 rfl rfl (Eu.rows HS6 y1 cm0).1 (Eu.rows HS6 y1 cm0).2.1) rfl ⟨rfl, (Eu.rows HS6 y1 cm0).2.2⟩
set_option maxRecDepth 100000 in
set_option maxHeartbeats 4000000 in
theorem tellsnone_any (hk : ¬ (0 ≤ a.k ∧ a.k ≤ 11)) : Calls Tryz.prog 8 #[.agg #[.string nm, .int .i64 dl, .slice A n c], .agg #[.int .i64 s.id, .string s.dn, .int .i64 s.st, .int .i64 s.ph, .int .i64 s.sp, .int .i64 s.tr, .bool s.out, .int .i64 s.at_, .int .i64 s.sk], .agg #[.int .i64 a.k, .int .i64 a.now, .int .i64 a.r.sg, .int .i64 a.r.sp, .bool a.r.un, .int .i64 a.r.tr, .bool a.r.good]] w fun e w' => e = .returned (.tuple #[.agg (doA nm dl ss s a).1.arr, .agg (doA nm dl ss s a).2.1.arr, .int .i64 (doA nm dl ss s a).2.2]) ∧ Below w.heap.size w w' := by
  have hX : doA nm dl ss s a = (s, cm0, 0) := by
    unfold doA
    rw [if_neg (by omega), if_neg (by omega), if_neg (by omega)]
  have _hid := hid
  have _ht := ht
  have _hd := hd
  rw [hX]
  have H1 := Lib.hid (Eu.of (eo6 (w := w) (nm := nm) (dl := dl) (A := A) (n := n) (c := c) (s := s) (a := a) (cs := #[.int .i64 0, .string ⟨#[]⟩, .int .i64 0, .int .i64 0, .int .i64 0, .int .i64 0, .bool false, .int .i64 0, .int .i64 0]) (cs' := #[.int .i64 0, .int .i64 0, .bool false, .int .i64 0, .string ⟨#[]⟩, .string ⟨#[]⟩]) rfl rfl (Below.refl _ _)))
  have q0 : (a.k == 0) = false := by simp only [beq_eq_false_iff_ne, ne_eq]; omega
  have q1 : (a.k == 1) = false := by simp only [beq_eq_false_iff_ne, ne_eq]; omega
  have q2 : (a.k == 2) = false := by simp only [beq_eq_false_iff_ne, ne_eq]; omega
  have q3 : (a.k == 3) = false := by simp only [beq_eq_false_iff_ne, ne_eq]; omega
  have q4 : (a.k == 4) = false := by simp only [beq_eq_false_iff_ne, ne_eq]; omega
  have q5 : (a.k == 5) = false := by simp only [beq_eq_false_iff_ne, ne_eq]; omega
  have q6 : (a.k == 6) = false := by simp only [beq_eq_false_iff_ne, ne_eq]; omega
  have q7 : (a.k == 7) = false := by simp only [beq_eq_false_iff_ne, ne_eq]; omega
  have q8 : (a.k == 8) = false := by simp only [beq_eq_false_iff_ne, ne_eq]; omega
  have q9 : (a.k == 9) = false := by simp only [beq_eq_false_iff_ne, ne_eq]; omega
  have q10 : (a.k == 10) = false := by simp only [beq_eq_false_iff_ne, ne_eq]; omega
  have q11 : (a.k == 11) = false := by simp only [beq_eq_false_iff_ne, ne_eq]; omega
  clear hk hd ht hid hX _hid _ht _hd
  go_enter Tryz.func8, Tryz.ntmps8
  go_wp2
  have H6 := Lib.hid H1.out
  clear H1
  unfold Cm.arr cm0 at H6
  generalize ((((((w.alloc _).alloc _).alloc _).alloc _).alloc _).alloc _) = W6 at *
  have HS6 : (fun u => Eu w u nm dl A n c s a cm0) W6.drew := H6.out.on (Below.drew (Below.refl _ _))
  have u0 : ∀ u, (fun u => Eu w u nm dl A n c s a cm0) u → u.cell? ⟨w.heap.size + 1, 0, none⟩ = some (.int .i64 s.id) := fun u H => H.e.s.cell 0
  have u1 : ∀ u, (fun u => Eu w u nm dl A n c s a cm0) u → u.cell? ⟨w.heap.size + 1, 1, none⟩ = some (.string s.dn) := fun u H => H.e.s.cell 1
  have u2 : ∀ u, (fun u => Eu w u nm dl A n c s a cm0) u → u.cell? ⟨w.heap.size + 1, 2, none⟩ = some (.int .i64 s.st) := fun u H => H.e.s.cell 2
  have u3 : ∀ u, (fun u => Eu w u nm dl A n c s a cm0) u → u.cell? ⟨w.heap.size + 1, 3, none⟩ = some (.int .i64 s.ph) := fun u H => H.e.s.cell 3
  have u4 : ∀ u, (fun u => Eu w u nm dl A n c s a cm0) u → u.cell? ⟨w.heap.size + 1, 4, none⟩ = some (.int .i64 s.sp) := fun u H => H.e.s.cell 4
  have u5 : ∀ u, (fun u => Eu w u nm dl A n c s a cm0) u → u.cell? ⟨w.heap.size + 1, 5, none⟩ = some (.int .i64 s.tr) := fun u H => H.e.s.cell 5
  have u6 : ∀ u, (fun u => Eu w u nm dl A n c s a cm0) u → u.cell? ⟨w.heap.size + 1, 6, none⟩ = some (.bool s.out) := fun u H => H.e.s.cell 6
  have u7 : ∀ u, (fun u => Eu w u nm dl A n c s a cm0) u → u.cell? ⟨w.heap.size + 1, 7, none⟩ = some (.int .i64 s.at_) := fun u H => H.e.s.cell 7
  have u8 : ∀ u, (fun u => Eu w u nm dl A n c s a cm0) u → u.cell? ⟨w.heap.size + 1, 8, none⟩ = some (.int .i64 s.sk) := fun u H => H.e.s.cell 8
  have k0 : ∀ u, (fun u => Eu w u nm dl A n c s a cm0) u → u.cell? ⟨w.heap.size + 5, 0, none⟩ = some (.int .i64 cm0.sg) := fun u H => H.c.cell 0
  have k1 : ∀ u, (fun u => Eu w u nm dl A n c s a cm0) u → u.cell? ⟨w.heap.size + 5, 1, none⟩ = some (.int .i64 cm0.sp) := fun u H => H.c.cell 1
  have k2 : ∀ u, (fun u => Eu w u nm dl A n c s a cm0) u → u.cell? ⟨w.heap.size + 5, 2, none⟩ = some (.bool cm0.un) := fun u H => H.c.cell 2
  have k3 : ∀ u, (fun u => Eu w u nm dl A n c s a cm0) u → u.cell? ⟨w.heap.size + 5, 3, none⟩ = some (.int .i64 cm0.tr) := fun u H => H.c.cell 3
  have k4 : ∀ u, (fun u => Eu w u nm dl A n c s a cm0) u → u.cell? ⟨w.heap.size + 5, 4, none⟩ = some (.string cm0.pt) := fun u H => H.c.cell 4
  have k5 : ∀ u, (fun u => Eu w u nm dl A n c s a cm0) u → u.cell? ⟨w.heap.size + 5, 5, none⟩ = some (.string cm0.key) := fun u H => H.c.cell 5
  refine wp_region_held_drew (S := fun u => Eu w u nm dl A n c s a cm0) (by kernel_rfl) HS6 (fun hHeld => ?_)
  refine wpAnyH_take (i := 0) (oi := ⟨some 75, _, _, _, _, _⟩) (v := ?_) rfl (by kernel_rfl) (by kernel_rfl) (by kernel_rfl) (fun _ _ _ h => h) (Or.inl ⟨by rfl, ?_⟩) (by assumption) ?_
  rotate_left
  · (intro u hu; (try dsimp only at hu); go_simp; (try with_reducible rfl))
  (try simp only [Act.put, List.setIfInBounds_toArray, List.set_cons_zero, List.set_cons_succ])
  refine wpAnyH_take (i := 1) (oi := ⟨some 76, _, _, _, _, _⟩) (v := ?_) rfl (by kernel_rfl) (by kernel_rfl) (by kernel_rfl) (fun _ _ _ h => h) (Or.inl ⟨by rfl, ?_⟩) (by assumption) ?_
  rotate_left
  · (intro u hu; (try dsimp only at hu); go_simp; (try with_reducible rfl))
  (try simp only [Act.put, List.setIfInBounds_toArray, List.set_cons_zero, List.set_cons_succ])
  refine wpAnyH_take (i := 2) (oi := ⟨some 77, _, _, _, _, _⟩) (v := ?_) rfl (by kernel_rfl) (by kernel_rfl) (by kernel_rfl) (fun _ _ _ h => h) (Or.inl ⟨by rfl, ?_⟩) (by assumption) ?_
  rotate_left
  · (intro u hu; (try dsimp only at hu); go_simp; (try with_reducible rfl))
  (try simp only [Act.put, List.setIfInBounds_toArray, List.set_cons_zero, List.set_cons_succ])
  refine wpAnyH_ready (rs := [3]) (by kernel_rfl) (by simp) ?_
  refine AllReadyH.cons (o := ⟨none, _, _, _, _, _⟩) rfl (fun K hK => ?_) AllReadyH.nil
  rw [if_pos (by rfl)]
  obtain ⟨cs, hcs, hsz⟩ := HS6.q
  refine oper_store_row 26 _ _ rfl (w.heap.size + 3) 26 cs (s).arr rfl rfl hcs (sizeG _) hsz (oneG _) ?_
  refine hK.out _ _ ?_ (fun hHeld => ?_)
  · exact Eu.set3 HS6 _
  clear hK K hcs hsz
  (try simp only [Act.put])
  refine wpAnyH_ready (rs := [4]) (by kernel_rfl) (by simp) ?_
  refine AllReadyH.cons (o := ⟨none, _, _, _, _, _⟩) rfl (fun K hK => ?_) AllReadyH.nil
  rw [if_pos (by rfl)]
  obtain ⟨cs, hcs, hsz⟩ := (Eu.set3 HS6 _).k
  refine oper_store_row 34 _ _ rfl (w.heap.size + 4) 34 cs (cm0).arr rfl rfl hcs (sizeC _) hsz (oneC _) ?_
  refine hK.out _ _ ?_ (fun hHeld => ?_)
  · exact Eu.set4 (Eu.set3 HS6 _) _
  clear hK K hcs hsz
  (try simp only [Act.put])
  refine wpAnyH_take (i := 5) (oi := ⟨some 8, _, _, _, _, _⟩) (v := ?_) rfl (by kernel_rfl) (by kernel_rfl) (by kernel_rfl) (fun _ _ _ h => h) (Or.inl ⟨by rfl, ?_⟩) (by assumption) ?_
  rotate_left
  · (intro u hu; (try dsimp only at hu); go_simp; (try with_reducible rfl))
  (try simp only [Act.put, List.setIfInBounds_toArray, List.set_cons_zero, List.set_cons_succ])
  refine wpAnyH_done (by kernel_rfl) ?_ _
  go_wp2
  exact bodyPost_ret (res_sg_cm_tmp rfl _ _ (w.heap.size + 3) (w.heap.size + 4) s cm0 rfl rfl (Eu.rows HS6 s cm0).1 (Eu.rows HS6 s cm0).2.1) rfl ⟨rfl, (Eu.rows HS6 s cm0).2.2⟩
theorem tells_any : Calls Tryz.prog 8 #[.agg #[.string nm, .int .i64 dl, .slice A n c], .agg #[.int .i64 s.id, .string s.dn, .int .i64 s.st, .int .i64 s.ph, .int .i64 s.sp, .int .i64 s.tr, .bool s.out, .int .i64 s.at_, .int .i64 s.sk], .agg #[.int .i64 a.k, .int .i64 a.now, .int .i64 a.r.sg, .int .i64 a.r.sp, .bool a.r.un, .int .i64 a.r.tr, .bool a.r.good]] w fun e w' => e = .returned (.tuple #[.agg (doA nm dl ss s a).1.arr, .agg (doA nm dl ss s a).2.1.arr, .int .i64 (doA nm dl ss s a).2.2]) ∧ Below w.heap.size w w' := by
  by_cases hk : 0 ≤ a.k ∧ a.k ≤ 11
  · have h : a.k = 0 ∨ a.k = 1 ∨ a.k = 2 ∨ a.k = 3 ∨ a.k = 4 ∨ a.k = 5 ∨ a.k = 6 ∨ a.k = 7 ∨ a.k = 8 ∨ a.k = 9 ∨ a.k = 10 ∨ a.k = 11 := by omega
    rcases h with h | h | h | h | h | h | h | h | h | h | h | h
    · exact tells0_any nm dl A n c ss s a w hd ht hid h
    · exact tells1_any nm dl A n c ss s a w hd ht hid h
    · exact tells2_any nm dl A n c ss s a w hd ht hid h
    · exact tells3_any nm dl A n c ss s a w hd ht hid h
    · exact tells4_any nm dl A n c ss s a w hd ht hid h
    · exact tells5_any nm dl A n c ss s a w hd ht hid h
    · exact tells6_any nm dl A n c ss s a w hd ht hid h
    · exact tells7_any nm dl A n c ss s a w hd ht hid h
    · exact tells8_any nm dl A n c ss s a w hd ht hid h
    · exact tells9_any nm dl A n c ss s a w hd ht hid h
    · exact tells10_any nm dl A n c ss s a w hd ht hid h
    · exact tells11_any nm dl A n c ss s a w hd ht hid h
  · exact tellsnone_any nm dl A n c ss s a w hd ht hid hk
end
end Go.Proofs.YtkmldgcnbjjbcaaGreatDoor.Sa
