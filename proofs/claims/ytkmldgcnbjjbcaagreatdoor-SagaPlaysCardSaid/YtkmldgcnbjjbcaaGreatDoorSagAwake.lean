/-
  What Begin of package saga answers; the statements' own one and awake.
  Conditions: the library's table of powers of ten holds what its text lays.
-/
import Derived.Test.YtkmldgcnbjjbcaaGreatDoorSagUn
import Derived.Test.YtkmldgcnbjjbcaaGreatDoorSagEmit
namespace Go.Proofs.YtkmldgcnbjjbcaaGreatDoor.Sa
open Go.RowKit Go.Sort
open Go.Proofs.YtkmldgcnbjjbcaaGreatDoor.El
open Go.Proofs.YtkmldgcnbjjbcaaGreatDoor.Bo (P Made ret_int ret_bool left wait)
open Go.Proofs.YtkmldgcnbjjbcaaGreatDoor.Df

set_option maxHeartbeats 1000000 in
theorem begin_any (nm : ByteArray) (dl : Int) (A : Option Addr) (n c : Nat) (id now : Int) (w : World) : Calls Tryz.prog 16 #[.agg #[.string nm, .int .i64 dl, .slice A n c], .int .i64 id, .int .i64 now] w fun e w' => e = .returned (.agg (beginS nm id now).arr) ∧ Made w w' := by
  go_enter Tryz.func16, Tryz.ntmps16
  go_wp2_with (go_at_call 40; refine (Bo.tof_any _ _).mono ?_; rintro e w' ⟨rfl, rfl⟩)
  refine bodyPost_ret (res_sg rfl _ _ (w.heap.size + 1) (beginS nm id now) rfl ?_) rfl ⟨rfl, ?_⟩
  · exact box_new2 w _ _ _
  · exact (Made.alloc _ _).trans (Made.alloc _ _)
def oneP : P := ⟨1, 1, 1, 1⟩
def oneS : Stp := ⟨⟨#[98]⟩, ⟨#[99]⟩, 1, oneP, oneP, 0⟩
def oneN : ByteArray := ⟨#[97]⟩
theorem one_steps {w w' : World} {g : Nat} (h : Box w g 56 oneS.arr) (hb : Below w.heap.size w w') : Df.Steps w' w'.heap.size (some ⟨g, 0, none⟩) [oneS] := fun i s hs => by
  have hi : i = 0 := by have := at_lt hs; simpa using this
  subst hi
  simp only [List.getElem?_cons_zero, Option.some.injEq] at hs
  subst hs
  have hb' := h.below hb h.lt
  refine ⟨g, 0, rfl, hb'.lt, fun j u hu => ?_⟩
  rw [Nat.zero_mul, Nat.zero_add, hb'.cell j, ← hu]
  simp [Stp.arr, Stp.cells]
set_option maxHeartbeats 1000000 in
theorem one_any (w : World) : Calls Tryz.prog 17 #[] w fun e w' => ∃ b, e = .returned (.agg #[.string oneN, .int .i64 0, .slice (some ⟨b, 0, none⟩) 1 1]) ∧ Df.Steps w' w'.heap.size (some ⟨b, 0, none⟩) [oneS] ∧ Below w.heap.size w w' := by
  go_enter Tryz.func17, Tryz.ntmps17
  go_wp2
  refine bodyPost_ret (results_cell_row rfl _ _ w.heap.size 24 (dcells oneN 0 (some ⟨w.heap.size + 2, 0, none⟩) 1 1) (0, 0) _ rfl ?_ Tryz.underlying24 rfl (size_def _ _ _ _ _)) rfl ⟨w.heap.size + 2, rfl, one_steps (box_new3 w _ _ 56 oneS.arr) (Below.refl _ _), b3 w _ _ _⟩
  exact ((Box.new w _ _).alloc _).alloc _
theorem al1 (w : World) (o : Obj) : Below w.heap.size w (w.alloc o) := (Below.refl _ _).alloc (Nat.le_refl _) _
/-- the example, step by step -/
def ex0 : Sg := ⟨1, oneN, 0, 0, 0, 0, false, 0, 0⟩
def ex1 : Sg := ⟨1, oneN, 0, 0, 0, 1, true, 1, 0⟩
def ex2 : Sg := ⟨1, oneN, 0, 0, 0, 1, false, 2, 0⟩
def ex3 : Sg := ⟨1, oneN, 0, 0, 0, 2, true, 3, 0⟩
def ex4 : Sg := ⟨1, oneN, 0, 4, 0, 2, false, 3, 0⟩
theorem ex_begin : beginS oneN 1 0 = ex0 := eqG_iff.1 (by decide +kernel)
theorem ex_e1 : (emitA oneN 0 [oneS] ex0 0).1 = ex1 ∧ (emitA oneN 0 [oneS] ex0 0).2.2 = 0 := ⟨eqG_iff.1 (by decide +kernel), by decide +kernel⟩
theorem ex_l1 : (lateA oneN 0 [oneS] ex1 1).1 = ex2 ∧ (lateA oneN 0 [oneS] ex1 1).2 = 0 := ⟨eqG_iff.1 (by decide +kernel), by decide +kernel⟩
theorem ex_e2 : (emitA oneN 0 [oneS] ex2 2).1 = ex3 ∧ (emitA oneN 0 [oneS] ex2 2).2.2 = 0 := ⟨eqG_iff.1 (by decide +kernel), by decide +kernel⟩
theorem ex_l2 : (lateA oneN 0 [oneS] ex3 3).1 = ex4 ∧ (lateA oneN 0 [oneS] ex3 3).2 = 0 := ⟨eqG_iff.1 (by decide +kernel), by decide +kernel⟩
/-- where a statement stands: behind world w, a definition of w in block g, a saga in block g' -/
structure Aw (w u : World) (g g' : Nat) (nm : ByteArray) (dl : Int) (A : Option Addr) (n c : Nat) (s : Sg) : Prop where
  bel : Below w.heap.size w u
  d : Box u g 24 #[.string nm, .int .i64 dl, .slice A n c]
  s : Box u g' 26 s.arr
  ne : g ≠ g' ∧ w.heap.size ≤ g'
section
variable {w u u' : World} {g g' : Nat} {nm : ByteArray} {dl : Int} {A : Option Addr} {n c : Nat} {s : Sg}
theorem Aw.on (h : Aw w u g g' nm dl A n c s) (hb : Below u.heap.size u u') : Aw w u' g g' nm dl A n c s := ⟨h.bel.trans (hb.mono h.bel.size), h.d.below hb h.d.lt, h.s.below hb h.s.lt, h.ne⟩
theorem Aw.set (h : Aw w u g g' nm dl A n c s) (X : Sg) : Aw w (u.setRow g' X.arr) g g' nm dl A n c X := ⟨row_end h.bel h.ne.2 _, box_far h.d h.ne.1 _, box_row h.s _, h.ne⟩
theorem Aw.cd (h : Aw w u g g' nm dl A n c s) : u.cell? ⟨g, 0, none⟩ = some (.string nm) ∧ u.cell? ⟨g, 1, none⟩ = some (.int .i64 dl) ∧ u.cell? ⟨g, 2, none⟩ = some (.slice A n c) := ⟨h.d.cell 0, h.d.cell 1, h.d.cell 2⟩
theorem Aw.cs (h : Aw w u g g' nm dl A n c s) : u.cell? ⟨g', 0, none⟩ = some (.int .i64 s.id) ∧ u.cell? ⟨g', 1, none⟩ = some (.string s.dn) ∧ u.cell? ⟨g', 2, none⟩ = some (.int .i64 s.st) ∧ u.cell? ⟨g', 3, none⟩ = some (.int .i64 s.ph) ∧ u.cell? ⟨g', 4, none⟩ = some (.int .i64 s.sp) ∧
    u.cell? ⟨g', 5, none⟩ = some (.int .i64 s.tr) ∧ u.cell? ⟨g', 6, none⟩ = some (.bool s.out) ∧ u.cell? ⟨g', 7, none⟩ = some (.int .i64 s.at_) ∧ u.cell? ⟨g', 8, none⟩ = some (.int .i64 s.sk) := sgcells h.s
end
/-- behind the call that comes first behind the saga's own block -/
theorem aw_start {w v u : World} {g : Nat} {nm : ByteArray} {dl : Int} {A : Option Addr} {n c : Nat} {s : Sg} (hv : Below w.heap.size w v) (hd : Box v g 24 #[.string nm, .int .i64 dl, .slice A n c]) (hm : Below (v.alloc (.cells #[.int .i64 s.id, .string s.dn, .int .i64 s.st, .int .i64 s.ph, .int .i64 s.sp, .int .i64 s.tr, .bool s.out, .int .i64 s.at_, .int .i64 s.sk] 26)).heap.size (v.alloc (.cells #[.int .i64 s.id, .string s.dn, .int .i64 s.st, .int .i64 s.ph, .int .i64 s.sp, .int .i64 s.tr, .bool s.out, .int .i64 s.at_, .int .i64 s.sk] 26)) u) : Aw w u g v.heap.size nm dl A n c s := by
  have h1 : Aw w (v.alloc (.cells #[.int .i64 s.id, .string s.dn, .int .i64 s.st, .int .i64 s.ph, .int .i64 s.sp, .int .i64 s.tr, .bool s.out, .int .i64 s.at_, .int .i64 s.sk] 26)) g v.heap.size nm dl A n c s := ⟨hv.trans ((al1 v _).mono hv.size), hd.alloc _, Box.new v _ _, by have := hd.lt; omega, hv.size⟩
  exact h1.on hm
set_option maxRecDepth 100000 in
set_option maxHeartbeats 4000000 in
theorem awake_any (w : World) (hT : Tab w) : Calls Tryz.prog 5 #[] w fun e w' => e = .returned (.bool true) ∧ Below w.heap.size w w' := by
  have HT := Lib.hid hT
  have HO := Lib.hid (one_any w)
  have HB0 : Hid (∀ b u, Calls Tryz.prog 16 #[.agg #[.string oneN, .int .i64 0, .slice (some ⟨b, 0, none⟩) 1 1], .int .i64 1, .int .i64 0] u fun e w' => e = .returned (.agg ex0.arr) ∧ Made u w') := Lib.hid fun b u => by
    have h := begin_any oneN 0 (some ⟨b, 0, none⟩) 1 1 1 0 u
    rwa [ex_begin] at h
  have HE1 : Hid (∀ b u, Dn u oneN (some ⟨b, 0, none⟩) 1 1 [oneS] → Calls Tryz.prog 18 #[.agg #[.string oneN, .int .i64 0, .slice (some ⟨b, 0, none⟩) 1 1], .agg ex0.arr, .int .i64 0] u fun e w' => ∃ C : Cm, e = .returned (.tuple #[.agg ex1.arr, .agg C.arr, .int .i64 0]) ∧ Below u.heap.size u w') := Lib.hid fun b u hd => by
    have h := emit_any oneN 0 (some ⟨b, 0, none⟩) 1 1 [oneS] ex0 u hd 0 (by decide) (by decide)
    rw [ex_e1.1, ex_e1.2] at h
    exact h.mono fun e w' ⟨he, hb⟩ => ⟨_, he, hb⟩
  have HL1 : Hid (∀ b u, Dn u oneN (some ⟨b, 0, none⟩) 1 1 [oneS] → Calls Tryz.prog 19 #[.agg #[.string oneN, .int .i64 0, .slice (some ⟨b, 0, none⟩) 1 1], .agg ex1.arr, .int .i64 1] u fun e w' => e = .returned (.tuple #[.agg ex2.arr, .int .i64 0]) ∧ Below u.heap.size u w') := Lib.hid fun b u hd => by
    have h := late_any oneN 0 (some ⟨b, 0, none⟩) 1 1 [oneS] ex1 u hd 1 (by decide)
    rwa [ex_l1.1, ex_l1.2] at h
  have HE2 : Hid (∀ b u, Dn u oneN (some ⟨b, 0, none⟩) 1 1 [oneS] → Calls Tryz.prog 18 #[.agg #[.string oneN, .int .i64 0, .slice (some ⟨b, 0, none⟩) 1 1], .agg ex2.arr, .int .i64 2] u fun e w' => ∃ C : Cm, e = .returned (.tuple #[.agg ex3.arr, .agg C.arr, .int .i64 0]) ∧ Below u.heap.size u w') := Lib.hid fun b u hd => by
    have h := emit_any oneN 0 (some ⟨b, 0, none⟩) 1 1 [oneS] ex2 u hd 2 (by decide) (by decide)
    rw [ex_e2.1, ex_e2.2] at h
    exact h.mono fun e w' ⟨he, hb⟩ => ⟨_, he, hb⟩
  have HL2 : Hid (∀ b u, Dn u oneN (some ⟨b, 0, none⟩) 1 1 [oneS] → Calls Tryz.prog 19 #[.agg #[.string oneN, .int .i64 0, .slice (some ⟨b, 0, none⟩) 1 1], .agg ex3.arr, .int .i64 3] u fun e w' => e = .returned (.tuple #[.agg ex4.arr, .int .i64 0]) ∧ Below u.heap.size u w') := Lib.hid fun b u hd => by
    have h := late_any oneN 0 (some ⟨b, 0, none⟩) 1 1 [oneS] ex3 u hd 3 (by decide)
    rwa [ex_l2.1, ex_l2.2] at h
  have HDn : Hid (∀ b v, Df.Steps v v.heap.size (some ⟨b, 0, none⟩) [oneS] → Below w.heap.size w v → Dn v oneN (some ⟨b, 0, none⟩) 1 1 [oneS]) := Lib.hid fun b v hs hb => ⟨rfl, by decide, Nat.le_refl _, hs, by decide, fun s hs => by rw [List.mem_singleton.1 hs]; decide, tab_below HT.out hb⟩
  have HW0 : Hid (∀ b v h, Aw v ((v.alloc (.cells #[.string oneN, .int .i64 0, .slice (some ⟨b, 0, none⟩) 1 1] 24))) v.heap.size h oneN 0 (some ⟨b, 0, none⟩) 1 1 ex0 → True) := Lib.hid fun _ _ _ _ => trivial
  clear hT HW0
  simp only [ex0, Sg.arr, oneN] at HB0
  simp only [ex0, ex1, Sg.arr, oneN] at HE1
  simp only [ex1, ex2, Sg.arr, oneN] at HL1
  simp only [ex2, ex3, Sg.arr, oneN] at HE2
  simp only [ex3, ex4, Sg.arr, oneN] at HL2
  unfold oneN at HO HDn
  go_enter Tryz.func5, Tryz.ntmps5
  go_wp2_with (first
    | (go_at_call 17; (with_reducible refine HO.out.mono ?_); rintro e v0 ⟨b, rfl, hs, hb⟩; have HD0 := Lib.hid (HDn.out b v0 hs hb); have HV0 := Lib.hid hb; clear hs hb)
    | (go_at_call 16; (with_reducible refine (HB0.out _ _).mono ?_); rintro e v1 ⟨rfl, hm⟩; have HV1 := Lib.hid ((Box.new v0 24 #[.string ⟨#[97]⟩, .int .i64 0, .slice (some ⟨b, 0, none⟩) 1 1]).below hm.below (by simp)); have HV2 := Lib.hid ((al1 v0 _).trans (hm.below.mono (by simp))); clear hm; have d0 : v1.cell? ⟨v0.heap.size, 0, none⟩ = some (.string ⟨#[97]⟩) := HV1.out.cell 0; have d1 : v1.cell? ⟨v0.heap.size, 1, none⟩ = some (.int .i64 0) := HV1.out.cell 1; have d2 : v1.cell? ⟨v0.heap.size, 2, none⟩ = some (.slice (some ⟨b, 0, none⟩) 1 1) := HV1.out.cell 2; have d0a := fun o => cell_al d0 o; have d1a := fun o => cell_al d1 o; have d2a := fun o => cell_al d2 o)
    | (go_at_call 18; (with_reducible refine (HE1.out _ _ (HD0.out.on (HV2.out.trans ((al1 v1 _).mono HV2.out.size)))).mono ?_); rintro e v2 ⟨C1, rfl, hm⟩; have HA1 := Lib.hid (aw_start (s := ex0) HV2.out HV1.out hm); clear hm; obtain ⟨d0, d1, d2⟩ := HA1.out.cd)
    | (obtain ⟨cs, hcs, hsz⟩ := (Box.slot HA1.out.s rfl : Slot _ _ _ 9); refine wpList_store_row rfl 26 _ _ rfl v1.heap.size 26 cs ex1.arr rfl rfl hcs (sizeG _) hsz (oneG _) ?_; have HA2 := Lib.hid (HA1.out.set ex1); generalize v2.setRow v1.heap.size ex1.arr = W2 at *; obtain ⟨d0, d1, d2⟩ := HA2.out.cd; obtain ⟨c0, c1, c2, c3, c4, c5, c6, c7, c8⟩ := HA2.out.cs; simp only [ex1, oneN] at c0 c1 c2 c3 c4 c5 c6 c7 c8)
    | (go_at_call 19; (with_reducible refine (HL1.out _ _ (HD0.out.on HA2.out.bel)).mono ?_); rintro e v3 ⟨rfl, hm⟩; have HA3 := Lib.hid (HA2.out.on hm); clear hm; obtain ⟨d0, d1, d2⟩ := HA3.out.cd)
    | (obtain ⟨cs, hcs, hsz⟩ := (Box.slot HA3.out.s rfl : Slot _ _ _ 9); refine wpList_store_row rfl 26 _ _ rfl v1.heap.size 26 cs ex2.arr rfl rfl hcs (sizeG _) hsz (oneG _) ?_; have HA4 := Lib.hid (HA3.out.set ex2); generalize v3.setRow v1.heap.size ex2.arr = W4 at *; obtain ⟨d0, d1, d2⟩ := HA4.out.cd; obtain ⟨c0, c1, c2, c3, c4, c5, c6, c7, c8⟩ := HA4.out.cs; simp only [ex2, oneN] at c0 c1 c2 c3 c4 c5 c6 c7 c8)
    | (go_at_call 18; (with_reducible refine (HE2.out _ _ (HD0.out.on HA4.out.bel)).mono ?_); rintro e v5 ⟨C2, rfl, hm⟩; have HA5 := Lib.hid (HA4.out.on hm); clear hm; obtain ⟨d0, d1, d2⟩ := HA5.out.cd)
    | (obtain ⟨cs, hcs, hsz⟩ := (Box.slot HA5.out.s rfl : Slot _ _ _ 9); refine wpList_store_row rfl 26 _ _ rfl v1.heap.size 26 cs ex3.arr rfl rfl hcs (sizeG _) hsz (oneG _) ?_; have HA6 := Lib.hid (HA5.out.set ex3); generalize v5.setRow v1.heap.size ex3.arr = W6 at *; obtain ⟨d0, d1, d2⟩ := HA6.out.cd; obtain ⟨c0, c1, c2, c3, c4, c5, c6, c7, c8⟩ := HA6.out.cs; simp only [ex3, oneN] at c0 c1 c2 c3 c4 c5 c6 c7 c8)
    | (go_at_call 19; (with_reducible refine (HL2.out _ _ (HD0.out.on HA6.out.bel)).mono ?_); rintro e v7 ⟨rfl, hm⟩; have HA7 := Lib.hid (HA6.out.on hm); clear hm; obtain ⟨d0, d1, d2⟩ := HA7.out.cd)
    | (obtain ⟨cs, hcs, hsz⟩ := (Box.slot HA7.out.s rfl : Slot _ _ _ 9); refine wpList_store_row rfl 26 _ _ rfl v1.heap.size 26 cs ex4.arr rfl rfl hcs (sizeG _) hsz (oneG _) ?_; have HA8 := Lib.hid (HA7.out.set ex4); generalize v7.setRow v1.heap.size ex4.arr = W8 at *; obtain ⟨d0, d1, d2⟩ := HA8.out.cd; obtain ⟨c0, c1, c2, c3, c4, c5, c6, c7, c8⟩ := HA8.out.cs; simp only [ex4, oneN] at c0 c1 c2 c3 c4 c5 c6 c7 c8))
  go_ret
  exact ⟨rfl, HV0.out.trans (HA8.out.bel.mono HV0.out.size)⟩
end Go.Proofs.YtkmldgcnbjjbcaaGreatDoor.Sa
