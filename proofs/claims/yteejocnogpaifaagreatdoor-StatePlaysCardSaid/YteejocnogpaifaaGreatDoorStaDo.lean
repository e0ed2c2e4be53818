/-
  What Do of package state answers and leaves: the state behind an event, in memory of its own.
  Conditions: the state and the event lie in memory, the state is right; texts are of a moderate size.
-/
import Derived.Test.YteejocnogpaifaaGreatDoorMrg1
import Derived.Test.YteejocnogpaifaaGreatDoorStaAct
import Derived.Test.YteejocnogpaifaaGreatDoorStaDel
import Derived.Test.YteejocnogpaifaaGreatDoorStaDef
import Derived.Test.YteejocnogpaifaaGreatDoorStaOwn2
namespace Go.Proofs.YteejocnogpaifaaGreatDoor.Tt
open Go.RowKit
open Go.Proofs.YteejocnogpaifaaGreatDoor.El
open Go.Proofs.YteejocnogpaifaaGreatDoor.Df
open Go.Proofs.YteejocnogpaifaaGreatDoor.Bo (P Made ret_int ret_bool)
open Go.Proofs.YteejocnogpaifaaGreatDoor.Sa (Sg Cm Rp cm0)
open Go.Proofs.YteejocnogpaifaaGreatDoor.Co (Ev Mod evc EvIn goodE)

/-- what Do answers -/
def DoIs (w : World) (x : SV) (v : Ev) (lim : Int) (e : Ending) (w' : World) : Prop :=
  ∃ y : SV, e = .returned (.tuple #[.agg y.arr, .agg (doS x.st v lim).2.1.arr, .int .i64 (doS x.st v lim).2.2]) ∧ SOwn w' w.heap.size y ∧ y.st = (doS x.st v lim).1 ∧ Below w.heap.size w w'
theorem sizeT (x : SV) : (Tryz.prog.info? 27).map (·.size) = some x.arr.size := by show (Tryz.prog.info? 27).map (·.size) = some 3; kernel_rfl
theorem oneT (x : SV) : x.arr.all (·.oneCell') = true := by simp [SV.arr, Value.oneCell']
theorem res_st_cm_tmp {fn : Func} {p q u : Tmp} (h : fn.results = #[.cell p 27, .cell q 37, .tmp u]) (tmps : Array Value) (w : World) (g g' : Nat) (s : SV) (c : Cm)
    (hp : tmps.getD p undef = .pointer (some ⟨g, 0, none⟩)) (hq : tmps.getD q undef = .pointer (some ⟨g', 0, none⟩)) (hg : Box w g 27 s.arr) (hg' : Box w g' 37 c.arr) :
    (results fn tmps).run Tryz.prog w = .ok (.tuple #[.agg s.arr, .agg c.arr, tmps.getD u undef]) w := by
  rw [Sa.results_cct h, hp, hq]
  simp only [asAddr, Sem.run_pure, Result.andThen_ok, run_loadVar_row w g _ 27 _ _ _ hg Tryz.underlying27 rfl (sizeT s), run_loadVar_row w g' _ 37 _ _ _ hg' Tryz.underlying37 rfl (Sa.sizeC c)]
theorem here_self {w : World} {g R : Nat} {x : SV} (h : Here w g R x) : Here (w.setRow g x.arr) g R x :=
  ⟨Sa.box_row h.box _, h.own.stay fun i hi _ => setRow_other w g i _ (by have := h.lt; omega), h.lt, by rw [setRow_size]; exact h.le⟩
/-- the blocks that Do lays first -/
structure Four (w W : World) (x : SV) (v : Ev) (A : Option Addr) (n c : Nat) : Prop where
  bel : Below w.heap.size w W
  x3 : Box W w.heap.size 27 x.arr
  v4 : Box W (w.heap.size + 1) 35 #[.int .i64 v.k, .int .i64 v.now, .int .i64 v.sg, .string v.nm, .int .i64 v.r.sg, .int .i64 v.r.sp, .bool v.r.un, .int .i64 v.r.tr, .bool v.r.good, .string v.dn, .int .i64 v.dl, .slice A n c]
  c7 : Box W (w.heap.size + 3) 37 cm0.arr
  z : w.heap.size + 4 ≤ W.heap.size
section
variable {w W U : World} {x y : SV} {v : Ev} {A : Option Addr} {n c : Nat}
theorem Four.on (h : Four w W x v A n c) (hb : Below W.heap.size W U) : Four w U x v A n c :=
  ⟨h.bel.trans (hb.mono h.bel.size), h.x3.below hb h.x3.lt, h.v4.below hb h.v4.lt, h.c7.below hb h.c7.lt, Nat.le_trans h.z hb.size⟩
theorem Four.off (h : Four w W x v A n c) (cs : Array Value) : Four w (W.setRow (w.heap.size + 2) cs) x v A n c :=
  ⟨Sa.below_row h.bel (by omega) _, Sa.box_far h.x3 (by omega) _, Sa.box_far h.v4 (by omega) _, Sa.box_far h.c7 (by omega) _, by rw [setRow_size]; exact h.z⟩
theorem four_cells (h : Four w W x v A n c) : W.cell? ⟨w.heap.size, 0, none⟩ = some (.slice x.AD x.nD x.cD) ∧ W.cell? ⟨w.heap.size, 1, none⟩ = some (.slice x.AS x.nS x.cS) ∧ W.cell? ⟨w.heap.size, 2, none⟩ = some (.int .i64 x.nx) := ⟨h.x3.cell 0, h.x3.cell 1, h.x3.cell 2⟩
theorem box_al4 (w : World) (o o' o2 : Obj) (t : TypeId) (cs : Array Value) : Box ((((w.alloc (.cells cs t)).alloc o).alloc o').alloc o2) w.heap.size t cs := (((Box.new w t cs).alloc o).alloc o').alloc o2
theorem four_new (w : World) (x : SV) (v : Ev) (A : Option Addr) (n c : Nat) : Four w ((((w.alloc (.cells #[.slice x.AD x.nD x.cD, .slice x.AS x.nS x.cS, .int .i64 x.nx] 27)).alloc (.cells #[.int .i64 v.k, .int .i64 v.now, .int .i64 v.sg, .string v.nm, .int .i64 v.r.sg, .int .i64 v.r.sp, .bool v.r.un, .int .i64 v.r.tr, .bool v.r.good, .string v.dn, .int .i64 v.dl, .slice A n c] 35)).alloc (.cells #[.slice none 0 0, .slice none 0 0, .int .i64 0] 27)).alloc (.cells #[.int .i64 0, .int .i64 0, .bool false, .int .i64 0, .string ⟨#[]⟩, .string ⟨#[]⟩] 37)) x v A n c ∧ ((((w.alloc (.cells #[.slice x.AD x.nD x.cD, .slice x.AS x.nS x.cS, .int .i64 x.nx] 27)).alloc (.cells #[.int .i64 v.k, .int .i64 v.now, .int .i64 v.sg, .string v.nm, .int .i64 v.r.sg, .int .i64 v.r.sp, .bool v.r.un, .int .i64 v.r.tr, .bool v.r.good, .string v.dn, .int .i64 v.dl, .slice A n c] 35)).alloc (.cells #[.slice none 0 0, .slice none 0 0, .int .i64 0] 27)).alloc (.cells #[.int .i64 0, .int .i64 0, .bool false, .int .i64 0, .string ⟨#[]⟩, .string ⟨#[]⟩] 37)).heap.size = w.heap.size + 4 ∧ Box ((((w.alloc (.cells #[.slice x.AD x.nD x.cD, .slice x.AS x.nS x.cS, .int .i64 x.nx] 27)).alloc (.cells #[.int .i64 v.k, .int .i64 v.now, .int .i64 v.sg, .string v.nm, .int .i64 v.r.sg, .int .i64 v.r.sp, .bool v.r.un, .int .i64 v.r.tr, .bool v.r.good, .string v.dn, .int .i64 v.dl, .slice A n c] 35)).alloc (.cells #[.slice none 0 0, .slice none 0 0, .int .i64 0] 27)).alloc (.cells #[.int .i64 0, .int .i64 0, .bool false, .int .i64 0, .string ⟨#[]⟩, .string ⟨#[]⟩] 37)) (w.heap.size + 2) 27 #[.slice none 0 0, .slice none 0 0, .int .i64 0] := by
  refine ⟨⟨?_, ?_, ?_, ?_, by simp⟩, by simp, ?_⟩
  · exact ((((Below.refl w.heap.size w).alloc (Nat.le_refl _) _).alloc (by simp) _).alloc (by simp; omega) _).alloc (by simp; omega) _
  · exact box_al4 w _ _ _ _ _
  · exact ((box_new2 w (.cells #[.slice x.AD x.nD x.cD, .slice x.AS x.nS x.cS, .int .i64 x.nx] 27) _ #[.int .i64 v.k, .int .i64 v.now, .int .i64 v.sg, .string v.nm, .int .i64 v.r.sg, .int .i64 v.r.sp, .bool v.r.un, .int .i64 v.r.tr, .bool v.r.good, .string v.dn, .int .i64 v.dl, .slice A n c]).alloc (.cells #[.slice none 0 0, .slice none 0 0, .int .i64 0] 27)).alloc (.cells #[.int .i64 0, .int .i64 0, .bool false, .int .i64 0, .string ⟨#[]⟩, .string ⟨#[]⟩] 37)
  · exact Sa.box_new4 w _ _ _ _ _
  · exact (Sa.box_new3 w _ _ _ _).alloc _
/-- the copy stored -/
theorem here_copy (h : Four w W x v A n c) (hz : W.heap.size = w.heap.size + 4) (hb : Below W.heap.size W U) (hbx : Box W (w.heap.size + 2) 27 #[.slice none 0 0, .slice none 0 0, .int .i64 0]) (ho : SOwn U W.heap.size y) : Four w (U.setRow (w.heap.size + 2) y.arr) x v A n c ∧ Here (U.setRow (w.heap.size + 2) y.arr) (w.heap.size + 2) (w.heap.size + 4) y := by
  refine ⟨(h.on hb).off _, Sa.box_row (hbx.below hb hbx.lt) _, ?_, by omega, by rw [setRow_size]; exact (h.on hb).z⟩
  rw [hz] at ho
  exact ho.stay fun i hi _ => setRow_other U _ i _ (by omega)
/-- the end of it -/
theorem do_end {w' : World} {C : Cm} (hf : Below w.heap.size w U) (hh : Here U (w.heap.size + 2) (w.heap.size + 4) y) (hc : Box U (w.heap.size + 3) 37 C.arr) (hw : w' = (U.setRow (w.heap.size + 2) y.arr).setRow (w.heap.size + 3) C.arr) : SOwn w' w.heap.size y ∧ Below w.heap.size w w' := by
  subst hw
  have h1 := here_self hh
  have h2 : Box (U.setRow (w.heap.size + 2) y.arr) (w.heap.size + 3) 37 C.arr := Sa.box_far hc (by omega) _
  exact ⟨(here_off h1 h2 (by decide) (by decide) (by decide) (by decide) C.arr).own.low (by omega), Sa.below_row (Sa.below_row hf (by omega) _) (by omega) _⟩
end
theorem do_cells (w : World) (Y : SV) (C : Cm) : (∀ u, Box u (w.heap.size + 2) 27 Y.arr ∧ Box u (w.heap.size + 3) 37 C.arr → u.cell? ⟨w.heap.size + 1 + 1, 0, none⟩ = some (.slice Y.AD Y.nD Y.cD)) ∧ (∀ u, Box u (w.heap.size + 2) 27 Y.arr ∧ Box u (w.heap.size + 3) 37 C.arr → u.cell? ⟨w.heap.size + 1 + 1, 1, none⟩ = some (.slice Y.AS Y.nS Y.cS)) ∧ (∀ u, Box u (w.heap.size + 2) 27 Y.arr ∧ Box u (w.heap.size + 3) 37 C.arr → u.cell? ⟨w.heap.size + 1 + 1, 2, none⟩ = some (.int .i64 Y.nx)) ∧ (∀ u, Box u (w.heap.size + 2) 27 Y.arr ∧ Box u (w.heap.size + 3) 37 C.arr → u.cell? ⟨w.heap.size + 1 + 1 + 1, 0, none⟩ = some (.int .i64 C.sg)) ∧ (∀ u, Box u (w.heap.size + 2) 27 Y.arr ∧ Box u (w.heap.size + 3) 37 C.arr → u.cell? ⟨w.heap.size + 1 + 1 + 1, 1, none⟩ = some (.int .i64 C.sp)) ∧ (∀ u, Box u (w.heap.size + 2) 27 Y.arr ∧ Box u (w.heap.size + 3) 37 C.arr → u.cell? ⟨w.heap.size + 1 + 1 + 1, 2, none⟩ = some (.bool C.un)) ∧ (∀ u, Box u (w.heap.size + 2) 27 Y.arr ∧ Box u (w.heap.size + 3) 37 C.arr → u.cell? ⟨w.heap.size + 1 + 1 + 1, 3, none⟩ = some (.int .i64 C.tr)) ∧ (∀ u, Box u (w.heap.size + 2) 27 Y.arr ∧ Box u (w.heap.size + 3) 37 C.arr → u.cell? ⟨w.heap.size + 1 + 1 + 1, 4, none⟩ = some (.string C.pt)) ∧ (∀ u, Box u (w.heap.size + 2) 27 Y.arr ∧ Box u (w.heap.size + 3) 37 C.arr → u.cell? ⟨w.heap.size + 1 + 1 + 1, 5, none⟩ = some (.string C.key)) :=
  ⟨fun _ h => h.1.cell 0, fun _ h => h.1.cell 1, fun _ h => h.1.cell 2, fun _ h => h.2.cell 0, fun _ h => h.2.cell 1, fun _ h => h.2.cell 2, fun _ h => h.2.cell 3, fun _ h => h.2.cell 4, fun _ h => h.2.cell 5⟩
section
variable (x : SV) (v : Ev) (A : Option Addr) (n c : Nat) (lim : Int) (w : World) (hx : SIn w x) (hi : Inv x.st) (hb2 : x.nS ≤ 1000000000) (hv : EvIn w v A n c) (h0 : A = none → n = 0 ∧ c = 0) (ht : Df.Tab w)
include hx hi hb2 hv h0 ht
omit h0 ht in
set_option maxHeartbeats 4000000 in
set_option maxRecDepth 100000 in
theorem do_bad (hg : goodE v = false) : Calls Tryz.prog 7 #[.agg #[.slice x.AD x.nD x.cD, .slice x.AS x.nS x.cS, .int .i64 x.nx], .agg #[.int .i64 v.k, .int .i64 v.now, .int .i64 v.sg, .string v.nm, .int .i64 v.r.sg, .int .i64 v.r.sp, .bool v.r.un, .int .i64 v.r.tr, .bool v.r.good, .string v.dn, .int .i64 v.dl, .slice A n c], .int .i64 lim] w (DoIs w x v lim) := by
  obtain ⟨hF0, hZ0, hX6⟩ := four_new w x v A n c
  have HX6 := Lib.hid hX6
  have HZ := Lib.hid hZ0
  have H4 := Lib.hid hF0
  have hfew : x.nD ≤ 64 := by have h1 := hx.lD; have h2 := hi.ok.ds.few; have h3 : x.st.ds.length = x.dx.length := List.length_map _; omega
  have HOW := Lib.hid (own_any16 x ((((w.alloc (.cells #[.slice x.AD x.nD x.cD, .slice x.AS x.nS x.cS, .int .i64 x.nx] 27)).alloc (.cells #[.int .i64 v.k, .int .i64 v.now, .int .i64 v.sg, .string v.nm, .int .i64 v.r.sg, .int .i64 v.r.sp, .bool v.r.un, .int .i64 v.r.tr, .bool v.r.good, .string v.dn, .int .i64 v.dl, .slice A n c] 35)).alloc (.cells #[.slice none 0 0, .slice none 0 0, .int .i64 0] 27)).alloc (.cells #[.int .i64 0, .int .i64 0, .bool false, .int .i64 0, .string ⟨#[]⟩, .string ⟨#[]⟩] 37)) (hx.on hF0.bel) (by omega) hb2)
  have HGV := Lib.hid (fun W (hW : Below w.heap.size w W) => Co.good_ev v A n c W (hv.on hW))
  have HHX := Lib.hid hx
  have HHV := Lib.hid hv
  have HF : Hid (doS x.st v lim = (x.st, cm0, 3)) := Lib.hid (by unfold doS; rw [if_pos hg])
  rw [hg] at HGV
  clear hg
  clear hF0 hZ0 hX6 hx hv
  go_enter Tryz.func7, Tryz.ntmps7
  go_upto_region 1 with fail
  generalize ((((w.alloc (.cells #[.slice x.AD x.nD x.cD, .slice x.AS x.nS x.cS, .int .i64 x.nx] 27)).alloc (.cells #[.int .i64 v.k, .int .i64 v.now, .int .i64 v.sg, .string v.nm, .int .i64 v.r.sg, .int .i64 v.r.sp, .bool v.r.un, .int .i64 v.r.tr, .bool v.r.good, .string v.dn, .int .i64 v.dl, .slice A n c] 35)).alloc (.cells #[.slice none 0 0, .slice none 0 0, .int .i64 0] 27)).alloc (.cells #[.int .i64 0, .int .i64 0, .bool false, .int .i64 0, .string ⟨#[]⟩, .string ⟨#[]⟩] 37)) = W0 at *
  obtain ⟨k0, k1, k2⟩ := four_cells H4.out
  go_upto_region 2 with (first
    | (go_at_call 15; (with_reducible refine HOW.out.mono ?_); rintro e w1 ⟨y0, rfl, ho, hst, hb1⟩; have HST := Lib.hid hst; have HC1 := Lib.hid (here_copy H4.out HZ.out hb1 HX6.out ho); have HB6 := Lib.hid (HX6.out.below hb1 HX6.out.lt); clear hst ho hb1)
    | (refine wpList_store_row rfl 27 _ _ rfl (w.heap.size + 2) 27 #[.slice none 0 0, .slice none 0 0, .int .i64 0] y0.arr rfl rfl HB6.out (sizeT y0) rfl (oneT y0) ?_))
  clear k0 k1 k2 HB6 HOW HX6 HZ H4
  generalize w1.setRow (w.heap.size + 2) y0.arr = W1 at *
  have H4 := Lib.hid HC1.out.1
  have HH1 := Lib.hid HC1.out.2
  clear HC1
  obtain ⟨a0, a1, a2, a3, a4, a5, a6, a7, a8, a9, a10, a11⟩ := evc H4.out.v4
  go_upto_region 3 with ((go_at_call 16; (with_reducible refine (HGV.out _ H4.out.bel).mono ?_); rintro e w2 ⟨rfl, hb2'⟩; have H42 := Lib.hid (H4.out.on hb2'); have HH2 := Lib.hid (HH1.out.below hb2'); obtain ⟨k0, k1, k2⟩ := four_cells H42.out; obtain ⟨i0, i1, i2, i3, i4, i5, i6, i7, i8, i9, i10, i11⟩ := evc H42.out.v4; clear hb2'))
  generalize w2 = W5 at *
  have HSS : Hid ((fun u => Box u (w.heap.size + 2) 27 y0.arr ∧ Box u (w.heap.size + 3) 37 cm0.arr) (W5.drew)) := Lib.hid ⟨HH2.out.box.below (Below.drew (Below.refl _ _)) HH2.out.box.lt, H42.out.c7.below (Below.drew (Below.refl _ _)) H42.out.c7.lt⟩
  obtain ⟨z0, z1, z2, yc0, yc1, yc2, yc3, yc4, yc5⟩ := do_cells w y0 cm0
  refine wp_region_held_drew (S := fun u => Box u (w.heap.size + 2) 27 y0.arr ∧ Box u (w.heap.size + 3) 37 cm0.arr) (by kernel_rfl) (HSS.out) (fun hHeld => ?_)
  refine Un.tk 0 15 rfl ?_
  refine Un.tk 1 16 rfl ?_
  have HS6 : Hid ((fun u => Box u (w.heap.size + 2) 27 y0.arr ∧ Box u (w.heap.size + 3) 37 cm0.arr) (W5.drew.setRow (w.heap.size + 2) y0.arr)) := Lib.hid ⟨Sa.box_row HSS.out.1 _, Sa.box_far HSS.out.2 (by omega) _⟩
  refine Sa.st1 2 27 _ _ rfl (w.heap.size + 2) 27 y0.arr y0.arr rfl rfl HSS.out.1 (sizeT _) rfl (oneT _) HS6.out (fun hHeld => ?_)
  have HS7 : Hid ((fun u => Box u (w.heap.size + 2) 27 y0.arr ∧ Box u (w.heap.size + 3) 37 cm0.arr) ((W5.drew.setRow (w.heap.size + 2) y0.arr).setRow (w.heap.size + 3) cm0.arr)) := Lib.hid ⟨Sa.box_far HS6.out.1 (by omega) _, Sa.box_row HS6.out.2 _⟩
  refine Sa.st1 3 37 _ _ rfl (w.heap.size + 3) 37 cm0.arr cm0.arr rfl rfl HS6.out.2 (Sa.sizeC _) rfl (Sa.oneC _) HS7.out (fun hHeld => ?_)
  refine Un.tk 4 8 rfl ?_
  refine wpAnyH_done (by kernel_rfl) ?_ _
  go_wp2
  refine bodyPost_ret (res_st_cm_tmp rfl _ _ (w.heap.size + 2) (w.heap.size + 3) y0 cm0 rfl rfl HS7.out.1 HS7.out.2) rfl ?_
  have HE := do_end (w := w) (H42.out.bel.drew) (HH2.out.below (Below.drew (Below.refl _ _))) HSS.out.2 rfl
  refine ⟨y0, ?_, HE.1, ?_, HE.2⟩
  · rw [HF.out]; rfl
  · rw [HF.out]; exact HST.out
set_option maxHeartbeats 4000000 in
set_option maxRecDepth 100000 in
theorem do_define (hg : goodE v = true) (hk : v.k = 0) : Calls Tryz.prog 7 #[.agg #[.slice x.AD x.nD x.cD, .slice x.AS x.nS x.cS, .int .i64 x.nx], .agg #[.int .i64 v.k, .int .i64 v.now, .int .i64 v.sg, .string v.nm, .int .i64 v.r.sg, .int .i64 v.r.sp, .bool v.r.un, .int .i64 v.r.tr, .bool v.r.good, .string v.dn, .int .i64 v.dl, .slice A n c], .int .i64 lim] w (DoIs w x v lim) := by
  obtain ⟨hF0, hZ0, hX6⟩ := four_new w x v A n c
  have HX6 := Lib.hid hX6
  have HZ := Lib.hid hZ0
  have H4 := Lib.hid hF0
  have hfew : x.nD ≤ 64 := by have h1 := hx.lD; have h2 := hi.ok.ds.few; have h3 : x.st.ds.length = x.dx.length := List.length_map _; omega
  have HOW := Lib.hid (own_any16 x ((((w.alloc (.cells #[.slice x.AD x.nD x.cD, .slice x.AS x.nS x.cS, .int .i64 x.nx] 27)).alloc (.cells #[.int .i64 v.k, .int .i64 v.now, .int .i64 v.sg, .string v.nm, .int .i64 v.r.sg, .int .i64 v.r.sp, .bool v.r.un, .int .i64 v.r.tr, .bool v.r.good, .string v.dn, .int .i64 v.dl, .slice A n c] 35)).alloc (.cells #[.slice none 0 0, .slice none 0 0, .int .i64 0] 27)).alloc (.cells #[.int .i64 0, .int .i64 0, .bool false, .int .i64 0, .string ⟨#[]⟩, .string ⟨#[]⟩] 37)) (hx.on hF0.bel) (by omega) hb2)
  have HGV := Lib.hid (fun W (hW : Below w.heap.size w W) => Co.good_ev v A n c W (hv.on hW))
  have HHX := Lib.hid hx
  have HHV := Lib.hid hv
  have HGS := Lib.hid (fun W (hW : Below w.heap.size w W) => good16_any x W (hx.on hW) (tab_below ht hW) (by omega) hb2)
  rw [stB_ok hi.ok] at HGS
  rw [hg] at HGV
  have hny : ∀ {W : World} {y : SV}, Here W (w.heap.size + 2) (w.heap.size + 4) y → y.st = x.st → y.nD ≤ 1000000 ∧ y.nS ≤ 1000000000 := fun {W y} hH hy => by
    have h1 : y.st.ds.length = y.dx.length := List.length_map _
    have h2 : x.st.ds.length = x.dx.length := List.length_map _
    have h3 : y.gs = x.gs := congrArg Ms.gs hy
    have h4 := hH.own.lD
    have h5 := hH.own.lS
    have h6 := hx.lS
    have h7 := hi.ok.ds.few
    rw [hy] at h1
    rw [h3] at h5
    exact ⟨by omega, by omega⟩
  have HF : Hid (doS x.st v lim = ((defS x.st v).1, cm0, (defS x.st v).2)) := Lib.hid (by unfold doS; rw [if_neg (by rw [hg]; simp), if_pos hk])
  have HD := Lib.hid (fun W y (hH : Here W (w.heap.size + 2) (w.heap.size + 4) y) (hy : y.st = x.st) (hW : Below w.heap.size w W) => by
    have hr := define_any y (w.heap.size + 2) (w.heap.size + 4) v A n c W hH (hny hH hy).1 hv.hn hv.mod (hv.on hW).st h0
    unfold DefIs at hr
    rw [hy] at hr
    exact hr)
  have e0 : (v.k == 0) = true := by simp; omega
  clear hk hg hny
  clear hF0 hZ0 hX6 hx hv
  go_enter Tryz.func7, Tryz.ntmps7
  go_upto_region 1 with fail
  generalize ((((w.alloc (.cells #[.slice x.AD x.nD x.cD, .slice x.AS x.nS x.cS, .int .i64 x.nx] 27)).alloc (.cells #[.int .i64 v.k, .int .i64 v.now, .int .i64 v.sg, .string v.nm, .int .i64 v.r.sg, .int .i64 v.r.sp, .bool v.r.un, .int .i64 v.r.tr, .bool v.r.good, .string v.dn, .int .i64 v.dl, .slice A n c] 35)).alloc (.cells #[.slice none 0 0, .slice none 0 0, .int .i64 0] 27)).alloc (.cells #[.int .i64 0, .int .i64 0, .bool false, .int .i64 0, .string ⟨#[]⟩, .string ⟨#[]⟩] 37)) = W0 at *
  obtain ⟨k0, k1, k2⟩ := four_cells H4.out
  go_upto_region 2 with (first
    | (go_at_call 15; (with_reducible refine HOW.out.mono ?_); rintro e w1 ⟨y0, rfl, ho, hst, hb1⟩; have HST := Lib.hid hst; have HC1 := Lib.hid (here_copy H4.out HZ.out hb1 HX6.out ho); have HB6 := Lib.hid (HX6.out.below hb1 HX6.out.lt); clear hst ho hb1)
    | (refine wpList_store_row rfl 27 _ _ rfl (w.heap.size + 2) 27 #[.slice none 0 0, .slice none 0 0, .int .i64 0] y0.arr rfl rfl HB6.out (sizeT y0) rfl (oneT y0) ?_))
  clear k0 k1 k2 HB6 HOW HX6 HZ H4
  generalize w1.setRow (w.heap.size + 2) y0.arr = W1 at *
  have H4 := Lib.hid HC1.out.1
  have HH1 := Lib.hid HC1.out.2
  clear HC1
  obtain ⟨a0, a1, a2, a3, a4, a5, a6, a7, a8, a9, a10, a11⟩ := evc H4.out.v4
  go_upto_region 14 with (first
    | (go_at_call 16; (with_reducible refine (HGV.out _ H4.out.bel).mono ?_); rintro e w2 ⟨rfl, hb2'⟩; have H42 := Lib.hid (H4.out.on hb2'); have HH2 := Lib.hid (HH1.out.below hb2'); obtain ⟨k0, k1, k2⟩ := four_cells H42.out; obtain ⟨i0, i1, i2, i3, i4, i5, i6, i7, i8, i9, i10, i11⟩ := evc H42.out.v4; clear hb2')
    | (go_at_call 10; (with_reducible refine (HGS.out _ H42.out.bel).mono ?_); rintro e w3 ⟨rfl, hb3'⟩; have H43 := Lib.hid (H42.out.on hb3'); have HH3 := Lib.hid (HH2.out.below hb3'); obtain ⟨j0, j1, j2, j3, j4, j5, j6, j7, j8, j9, j10, j11⟩ := evc H43.out.v4; clear hb3')
    | (go_at_call 17; (with_reducible refine (HD.out _ _ HH3.out HST.out H43.out.bel).mono ?_); rintro e w4 ⟨y1, rfl, hH, hst, hF⟩; have HH4 := Lib.hid hH; have HS4 := Lib.hid hst; have HC4 : Hid (Box w4 (w.heap.size + 3) 37 cm0.arr) := Lib.hid (hF.box H43.out.c7 (by omega) (by omega)); have HB4 : Hid (Below w.heap.size w w4) := Lib.hid (H43.out.bel.trans (hF.below (by omega) (by omega))); clear hH hst hF))
  generalize w4 = W5 at *
  have HSS : Hid ((fun u => Box u (w.heap.size + 2) 27 y1.arr ∧ Box u (w.heap.size + 3) 37 cm0.arr) (W5.drew)) := Lib.hid ⟨HH4.out.box.below (Below.drew (Below.refl _ _)) HH4.out.box.lt, HC4.out.below (Below.drew (Below.refl _ _)) HC4.out.lt⟩
  obtain ⟨z0, z1, z2, yc0, yc1, yc2, yc3, yc4, yc5⟩ := do_cells w y1 cm0
  refine wp_region_held_drew (S := fun u => Box u (w.heap.size + 2) 27 y1.arr ∧ Box u (w.heap.size + 3) 37 cm0.arr) (by kernel_rfl) (HSS.out) (fun hHeld => ?_)
  refine Un.tk 0 45 rfl ?_
  refine Un.tk 1 46 rfl ?_
  refine Un.tk 2 47 rfl ?_
  have HS6 : Hid ((fun u => Box u (w.heap.size + 2) 27 y1.arr ∧ Box u (w.heap.size + 3) 37 cm0.arr) (W5.drew.setRow (w.heap.size + 2) y1.arr)) := Lib.hid ⟨Sa.box_row HSS.out.1 _, Sa.box_far HSS.out.2 (by omega) _⟩
  refine Sa.st1 3 27 _ _ rfl (w.heap.size + 2) 27 y1.arr y1.arr rfl rfl HSS.out.1 (sizeT _) rfl (oneT _) HS6.out (fun hHeld => ?_)
  have HS7 : Hid ((fun u => Box u (w.heap.size + 2) 27 y1.arr ∧ Box u (w.heap.size + 3) 37 cm0.arr) ((W5.drew.setRow (w.heap.size + 2) y1.arr).setRow (w.heap.size + 3) cm0.arr)) := Lib.hid ⟨Sa.box_far HS6.out.1 (by omega) _, Sa.box_row HS6.out.2 _⟩
  refine Sa.st1 4 37 _ _ rfl (w.heap.size + 3) 37 cm0.arr cm0.arr rfl rfl HS6.out.2 (Sa.sizeC _) rfl (Sa.oneC _) HS7.out (fun hHeld => ?_)
  refine Un.tk 5 8 rfl ?_
  refine wpAnyH_done (by kernel_rfl) ?_ _
  go_wp2
  refine bodyPost_ret (res_st_cm_tmp rfl _ _ (w.heap.size + 2) (w.heap.size + 3) y1 cm0 rfl rfl HS7.out.1 HS7.out.2) rfl ?_
  have HE := do_end (w := w) (HB4.out.drew) (HH4.out.below (Below.drew (Below.refl _ _))) HSS.out.2 rfl
  refine ⟨y1, ?_, HE.1, ?_, HE.2⟩
  · rw [HF.out]; rfl
  · rw [HF.out]; exact HS4.out
omit h0 in
set_option maxHeartbeats 4000000 in
set_option maxRecDepth 100000 in
theorem do_start (hg : goodE v = true) (hk : v.k = 1) : Calls Tryz.prog 7 #[.agg #[.slice x.AD x.nD x.cD, .slice x.AS x.nS x.cS, .int .i64 x.nx], .agg #[.int .i64 v.k, .int .i64 v.now, .int .i64 v.sg, .string v.nm, .int .i64 v.r.sg, .int .i64 v.r.sp, .bool v.r.un, .int .i64 v.r.tr, .bool v.r.good, .string v.dn, .int .i64 v.dl, .slice A n c], .int .i64 lim] w (DoIs w x v lim) := by
  obtain ⟨hF0, hZ0, hX6⟩ := four_new w x v A n c
  have HX6 := Lib.hid hX6
  have HZ := Lib.hid hZ0
  have H4 := Lib.hid hF0
  have hfew : x.nD ≤ 64 := by have h1 := hx.lD; have h2 := hi.ok.ds.few; have h3 : x.st.ds.length = x.dx.length := List.length_map _; omega
  have HOW := Lib.hid (own_any16 x ((((w.alloc (.cells #[.slice x.AD x.nD x.cD, .slice x.AS x.nS x.cS, .int .i64 x.nx] 27)).alloc (.cells #[.int .i64 v.k, .int .i64 v.now, .int .i64 v.sg, .string v.nm, .int .i64 v.r.sg, .int .i64 v.r.sp, .bool v.r.un, .int .i64 v.r.tr, .bool v.r.good, .string v.dn, .int .i64 v.dl, .slice A n c] 35)).alloc (.cells #[.slice none 0 0, .slice none 0 0, .int .i64 0] 27)).alloc (.cells #[.int .i64 0, .int .i64 0, .bool false, .int .i64 0, .string ⟨#[]⟩, .string ⟨#[]⟩] 37)) (hx.on hF0.bel) (by omega) hb2)
  have HGV := Lib.hid (fun W (hW : Below w.heap.size w W) => Co.good_ev v A n c W (hv.on hW))
  have HHX := Lib.hid hx
  have HHV := Lib.hid hv
  have HGS := Lib.hid (fun W (hW : Below w.heap.size w W) => good16_any x W (hx.on hW) (tab_below ht hW) (by omega) hb2)
  rw [stB_ok hi.ok] at HGS
  rw [hg] at HGV
  have hny : ∀ {W : World} {y : SV}, Here W (w.heap.size + 2) (w.heap.size + 4) y → y.st = x.st → y.nD ≤ 1000000 ∧ y.nS ≤ 1000000000 := fun {W y} hH hy => by
    have h1 : y.st.ds.length = y.dx.length := List.length_map _
    have h2 : x.st.ds.length = x.dx.length := List.length_map _
    have h3 : y.gs = x.gs := congrArg Ms.gs hy
    have h4 := hH.own.lD
    have h5 := hH.own.lS
    have h6 := hx.lS
    have h7 := hi.ok.ds.few
    rw [hy] at h1
    rw [h3] at h5
    exact ⟨by omega, by omega⟩
  have HF : Hid (doS x.st v lim = ((startS x.st v lim).1, cm0, (startS x.st v lim).2)) := Lib.hid (by unfold doS; rw [if_neg (by rw [hg]; simp), if_neg (show ¬ v.k = 0 by omega), if_pos hk])
  have HD := Lib.hid (fun W y (hH : Here W (w.heap.size + 2) (w.heap.size + 4) y) (hy : y.st = x.st) (hW : Below w.heap.size w W) => by
    have hr := start_any y (w.heap.size + 2) (w.heap.size + 4) v A n c lim W hH (hny hH hy).1 (hny hH hy).2 (by have h1 := hi.ok.nx; rw [← hy] at h1; exact h1)
    unfold StartIs at hr
    rw [hy] at hr
    exact hr)
  have e0 : (v.k == 0) = false := by simp; omega
  have e1 : (v.k == 1) = true := by simp; omega
  clear hk hg hny
  clear hF0 hZ0 hX6 hx hv
  go_enter Tryz.func7, Tryz.ntmps7
  go_upto_region 1 with fail
  generalize ((((w.alloc (.cells #[.slice x.AD x.nD x.cD, .slice x.AS x.nS x.cS, .int .i64 x.nx] 27)).alloc (.cells #[.int .i64 v.k, .int .i64 v.now, .int .i64 v.sg, .string v.nm, .int .i64 v.r.sg, .int .i64 v.r.sp, .bool v.r.un, .int .i64 v.r.tr, .bool v.r.good, .string v.dn, .int .i64 v.dl, .slice A n c] 35)).alloc (.cells #[.slice none 0 0, .slice none 0 0, .int .i64 0] 27)).alloc (.cells #[.int .i64 0, .int .i64 0, .bool false, .int .i64 0, .string ⟨#[]⟩, .string ⟨#[]⟩] 37)) = W0 at *
  obtain ⟨k0, k1, k2⟩ := four_cells H4.out
  go_upto_region 2 with (first
    | (go_at_call 15; (with_reducible refine HOW.out.mono ?_); rintro e w1 ⟨y0, rfl, ho, hst, hb1⟩; have HST := Lib.hid hst; have HC1 := Lib.hid (here_copy H4.out HZ.out hb1 HX6.out ho); have HB6 := Lib.hid (HX6.out.below hb1 HX6.out.lt); clear hst ho hb1)
    | (refine wpList_store_row rfl 27 _ _ rfl (w.heap.size + 2) 27 #[.slice none 0 0, .slice none 0 0, .int .i64 0] y0.arr rfl rfl HB6.out (sizeT y0) rfl (oneT y0) ?_))
  clear k0 k1 k2 HB6 HOW HX6 HZ H4
  generalize w1.setRow (w.heap.size + 2) y0.arr = W1 at *
  have H4 := Lib.hid HC1.out.1
  have HH1 := Lib.hid HC1.out.2
  clear HC1
  obtain ⟨a0, a1, a2, a3, a4, a5, a6, a7, a8, a9, a10, a11⟩ := evc H4.out.v4
  go_upto_region 14 with (first
    | (go_at_call 16; (with_reducible refine (HGV.out _ H4.out.bel).mono ?_); rintro e w2 ⟨rfl, hb2'⟩; have H42 := Lib.hid (H4.out.on hb2'); have HH2 := Lib.hid (HH1.out.below hb2'); obtain ⟨k0, k1, k2⟩ := four_cells H42.out; obtain ⟨i0, i1, i2, i3, i4, i5, i6, i7, i8, i9, i10, i11⟩ := evc H42.out.v4; clear hb2')
    | (go_at_call 10; (with_reducible refine (HGS.out _ H42.out.bel).mono ?_); rintro e w3 ⟨rfl, hb3'⟩; have H43 := Lib.hid (H42.out.on hb3'); have HH3 := Lib.hid (HH2.out.below hb3'); obtain ⟨j0, j1, j2, j3, j4, j5, j6, j7, j8, j9, j10, j11⟩ := evc H43.out.v4; clear hb3')
    | (go_at_call 18; (with_reducible refine (HD.out _ _ HH3.out HST.out H43.out.bel).mono ?_); rintro e w4 ⟨y1, rfl, hH, hst, hF⟩; have HH4 := Lib.hid hH; have HS4 := Lib.hid hst; have HC4 : Hid (Box w4 (w.heap.size + 3) 37 cm0.arr) := Lib.hid (hF.box H43.out.c7 (by omega) (by omega)); have HB4 : Hid (Below w.heap.size w w4) := Lib.hid (H43.out.bel.trans (hF.below (by omega) (by omega))); clear hH hst hF))
  generalize w4 = W5 at *
  have HSS : Hid ((fun u => Box u (w.heap.size + 2) 27 y1.arr ∧ Box u (w.heap.size + 3) 37 cm0.arr) (W5.drew)) := Lib.hid ⟨HH4.out.box.below (Below.drew (Below.refl _ _)) HH4.out.box.lt, HC4.out.below (Below.drew (Below.refl _ _)) HC4.out.lt⟩
  obtain ⟨z0, z1, z2, yc0, yc1, yc2, yc3, yc4, yc5⟩ := do_cells w y1 cm0
  refine wp_region_held_drew (S := fun u => Box u (w.heap.size + 2) 27 y1.arr ∧ Box u (w.heap.size + 3) 37 cm0.arr) (by kernel_rfl) (HSS.out) (fun hHeld => ?_)
  refine Un.tk 0 45 rfl ?_
  refine Un.tk 1 46 rfl ?_
  refine Un.tk 2 47 rfl ?_
  have HS6 : Hid ((fun u => Box u (w.heap.size + 2) 27 y1.arr ∧ Box u (w.heap.size + 3) 37 cm0.arr) (W5.drew.setRow (w.heap.size + 2) y1.arr)) := Lib.hid ⟨Sa.box_row HSS.out.1 _, Sa.box_far HSS.out.2 (by omega) _⟩
  refine Sa.st1 3 27 _ _ rfl (w.heap.size + 2) 27 y1.arr y1.arr rfl rfl HSS.out.1 (sizeT _) rfl (oneT _) HS6.out (fun hHeld => ?_)
  have HS7 : Hid ((fun u => Box u (w.heap.size + 2) 27 y1.arr ∧ Box u (w.heap.size + 3) 37 cm0.arr) ((W5.drew.setRow (w.heap.size + 2) y1.arr).setRow (w.heap.size + 3) cm0.arr)) := Lib.hid ⟨Sa.box_far HS6.out.1 (by omega) _, Sa.box_row HS6.out.2 _⟩
  refine Sa.st1 4 37 _ _ rfl (w.heap.size + 3) 37 cm0.arr cm0.arr rfl rfl HS6.out.2 (Sa.sizeC _) rfl (Sa.oneC _) HS7.out (fun hHeld => ?_)
  refine Un.tk 5 8 rfl ?_
  refine wpAnyH_done (by kernel_rfl) ?_ _
  go_wp2
  refine bodyPost_ret (res_st_cm_tmp rfl _ _ (w.heap.size + 2) (w.heap.size + 3) y1 cm0 rfl rfl HS7.out.1 HS7.out.2) rfl ?_
  have HE := do_end (w := w) (HB4.out.drew) (HH4.out.below (Below.drew (Below.refl _ _))) HSS.out.2 rfl
  refine ⟨y1, ?_, HE.1, ?_, HE.2⟩
  · rw [HF.out]; rfl
  · rw [HF.out]; exact HS4.out
omit h0 in
set_option maxHeartbeats 4000000 in
set_option maxRecDepth 100000 in
theorem do_forget (hg : goodE v = true) (hk : v.k = 10) : Calls Tryz.prog 7 #[.agg #[.slice x.AD x.nD x.cD, .slice x.AS x.nS x.cS, .int .i64 x.nx], .agg #[.int .i64 v.k, .int .i64 v.now, .int .i64 v.sg, .string v.nm, .int .i64 v.r.sg, .int .i64 v.r.sp, .bool v.r.un, .int .i64 v.r.tr, .bool v.r.good, .string v.dn, .int .i64 v.dl, .slice A n c], .int .i64 lim] w (DoIs w x v lim) := by
  obtain ⟨hF0, hZ0, hX6⟩ := four_new w x v A n c
  have HX6 := Lib.hid hX6
  have HZ := Lib.hid hZ0
  have H4 := Lib.hid hF0
  have hfew : x.nD ≤ 64 := by have h1 := hx.lD; have h2 := hi.ok.ds.few; have h3 : x.st.ds.length = x.dx.length := List.length_map _; omega
  have HOW := Lib.hid (own_any16 x ((((w.alloc (.cells #[.slice x.AD x.nD x.cD, .slice x.AS x.nS x.cS, .int .i64 x.nx] 27)).alloc (.cells #[.int .i64 v.k, .int .i64 v.now, .int .i64 v.sg, .string v.nm, .int .i64 v.r.sg, .int .i64 v.r.sp, .bool v.r.un, .int .i64 v.r.tr, .bool v.r.good, .string v.dn, .int .i64 v.dl, .slice A n c] 35)).alloc (.cells #[.slice none 0 0, .slice none 0 0, .int .i64 0] 27)).alloc (.cells #[.int .i64 0, .int .i64 0, .bool false, .int .i64 0, .string ⟨#[]⟩, .string ⟨#[]⟩] 37)) (hx.on hF0.bel) (by omega) hb2)
  have HGV := Lib.hid (fun W (hW : Below w.heap.size w W) => Co.good_ev v A n c W (hv.on hW))
  have HHX := Lib.hid hx
  have HHV := Lib.hid hv
  have HGS := Lib.hid (fun W (hW : Below w.heap.size w W) => good16_any x W (hx.on hW) (tab_below ht hW) (by omega) hb2)
  rw [stB_ok hi.ok] at HGS
  rw [hg] at HGV
  have hny : ∀ {W : World} {y : SV}, Here W (w.heap.size + 2) (w.heap.size + 4) y → y.st = x.st → y.nD ≤ 1000000 ∧ y.nS ≤ 1000000000 := fun {W y} hH hy => by
    have h1 : y.st.ds.length = y.dx.length := List.length_map _
    have h2 : x.st.ds.length = x.dx.length := List.length_map _
    have h3 : y.gs = x.gs := congrArg Ms.gs hy
    have h4 := hH.own.lD
    have h5 := hH.own.lS
    have h6 := hx.lS
    have h7 := hi.ok.ds.few
    rw [hy] at h1
    rw [h3] at h5
    exact ⟨by omega, by omega⟩
  have HF : Hid (doS x.st v lim = ((forgetS x.st v.sg).1, cm0, (forgetS x.st v.sg).2)) := Lib.hid (by unfold doS; rw [if_neg (by rw [hg]; simp), if_neg (show ¬ v.k = 0 by omega), if_neg (show ¬ v.k = 1 by omega), if_pos hk])
  have HD := Lib.hid (fun W y (hH : Here W (w.heap.size + 2) (w.heap.size + 4) y) (hy : y.st = x.st) (hW : Below w.heap.size w W) => by
    have hr := forget_any y (w.heap.size + 2) (w.heap.size + 4) v.sg W hH (hny hH hy).2
    unfold ForIs at hr
    rw [hy] at hr
    exact hr)
  have e0 : (v.k == 0) = false := by simp; omega
  have e1 : (v.k == 1) = false := by simp; omega
  have e10 : (v.k == 10) = true := by simp; omega
  clear hk hg hny
  clear hF0 hZ0 hX6 hx hv
  go_enter Tryz.func7, Tryz.ntmps7
  go_upto_region 1 with fail
  generalize ((((w.alloc (.cells #[.slice x.AD x.nD x.cD, .slice x.AS x.nS x.cS, .int .i64 x.nx] 27)).alloc (.cells #[.int .i64 v.k, .int .i64 v.now, .int .i64 v.sg, .string v.nm, .int .i64 v.r.sg, .int .i64 v.r.sp, .bool v.r.un, .int .i64 v.r.tr, .bool v.r.good, .string v.dn, .int .i64 v.dl, .slice A n c] 35)).alloc (.cells #[.slice none 0 0, .slice none 0 0, .int .i64 0] 27)).alloc (.cells #[.int .i64 0, .int .i64 0, .bool false, .int .i64 0, .string ⟨#[]⟩, .string ⟨#[]⟩] 37)) = W0 at *
  obtain ⟨k0, k1, k2⟩ := four_cells H4.out
  go_upto_region 2 with (first
    | (go_at_call 15; (with_reducible refine HOW.out.mono ?_); rintro e w1 ⟨y0, rfl, ho, hst, hb1⟩; have HST := Lib.hid hst; have HC1 := Lib.hid (here_copy H4.out HZ.out hb1 HX6.out ho); have HB6 := Lib.hid (HX6.out.below hb1 HX6.out.lt); clear hst ho hb1)
    | (refine wpList_store_row rfl 27 _ _ rfl (w.heap.size + 2) 27 #[.slice none 0 0, .slice none 0 0, .int .i64 0] y0.arr rfl rfl HB6.out (sizeT y0) rfl (oneT y0) ?_))
  clear k0 k1 k2 HB6 HOW HX6 HZ H4
  generalize w1.setRow (w.heap.size + 2) y0.arr = W1 at *
  have H4 := Lib.hid HC1.out.1
  have HH1 := Lib.hid HC1.out.2
  clear HC1
  obtain ⟨a0, a1, a2, a3, a4, a5, a6, a7, a8, a9, a10, a11⟩ := evc H4.out.v4
  go_upto_region 14 with (first
    | (go_at_call 16; (with_reducible refine (HGV.out _ H4.out.bel).mono ?_); rintro e w2 ⟨rfl, hb2'⟩; have H42 := Lib.hid (H4.out.on hb2'); have HH2 := Lib.hid (HH1.out.below hb2'); obtain ⟨k0, k1, k2⟩ := four_cells H42.out; obtain ⟨i0, i1, i2, i3, i4, i5, i6, i7, i8, i9, i10, i11⟩ := evc H42.out.v4; clear hb2')
    | (go_at_call 10; (with_reducible refine (HGS.out _ H42.out.bel).mono ?_); rintro e w3 ⟨rfl, hb3'⟩; have H43 := Lib.hid (H42.out.on hb3'); have HH3 := Lib.hid (HH2.out.below hb3'); obtain ⟨j0, j1, j2, j3, j4, j5, j6, j7, j8, j9, j10, j11⟩ := evc H43.out.v4; clear hb3')
    | (go_at_call 19; (with_reducible refine (HD.out _ _ HH3.out HST.out H43.out.bel).mono ?_); rintro e w4 ⟨y1, rfl, hH, hst, hF⟩; have HH4 := Lib.hid hH; have HS4 := Lib.hid hst; have HC4 : Hid (Box w4 (w.heap.size + 3) 37 cm0.arr) := Lib.hid (hF.box H43.out.c7 (by omega) (by omega)); have HB4 : Hid (Below w.heap.size w w4) := Lib.hid (H43.out.bel.trans (hF.below (by omega) (by omega))); clear hH hst hF))
  generalize w4 = W5 at *
  have HSS : Hid ((fun u => Box u (w.heap.size + 2) 27 y1.arr ∧ Box u (w.heap.size + 3) 37 cm0.arr) (W5.drew)) := Lib.hid ⟨HH4.out.box.below (Below.drew (Below.refl _ _)) HH4.out.box.lt, HC4.out.below (Below.drew (Below.refl _ _)) HC4.out.lt⟩
  obtain ⟨z0, z1, z2, yc0, yc1, yc2, yc3, yc4, yc5⟩ := do_cells w y1 cm0
  refine wp_region_held_drew (S := fun u => Box u (w.heap.size + 2) 27 y1.arr ∧ Box u (w.heap.size + 3) 37 cm0.arr) (by kernel_rfl) (HSS.out) (fun hHeld => ?_)
  refine Un.tk 0 45 rfl ?_
  refine Un.tk 1 46 rfl ?_
  refine Un.tk 2 47 rfl ?_
  have HS6 : Hid ((fun u => Box u (w.heap.size + 2) 27 y1.arr ∧ Box u (w.heap.size + 3) 37 cm0.arr) (W5.drew.setRow (w.heap.size + 2) y1.arr)) := Lib.hid ⟨Sa.box_row HSS.out.1 _, Sa.box_far HSS.out.2 (by omega) _⟩
  refine Sa.st1 3 27 _ _ rfl (w.heap.size + 2) 27 y1.arr y1.arr rfl rfl HSS.out.1 (sizeT _) rfl (oneT _) HS6.out (fun hHeld => ?_)
  have HS7 : Hid ((fun u => Box u (w.heap.size + 2) 27 y1.arr ∧ Box u (w.heap.size + 3) 37 cm0.arr) ((W5.drew.setRow (w.heap.size + 2) y1.arr).setRow (w.heap.size + 3) cm0.arr)) := Lib.hid ⟨Sa.box_far HS6.out.1 (by omega) _, Sa.box_row HS6.out.2 _⟩
  refine Sa.st1 4 37 _ _ rfl (w.heap.size + 3) 37 cm0.arr cm0.arr rfl rfl HS6.out.2 (Sa.sizeC _) rfl (Sa.oneC _) HS7.out (fun hHeld => ?_)
  refine Un.tk 5 8 rfl ?_
  refine wpAnyH_done (by kernel_rfl) ?_ _
  go_wp2
  refine bodyPost_ret (res_st_cm_tmp rfl _ _ (w.heap.size + 2) (w.heap.size + 3) y1 cm0 rfl rfl HS7.out.1 HS7.out.2) rfl ?_
  have HE := do_end (w := w) (HB4.out.drew) (HH4.out.below (Below.drew (Below.refl _ _))) HSS.out.2 rfl
  refine ⟨y1, ?_, HE.1, ?_, HE.2⟩
  · rw [HF.out]; rfl
  · rw [HF.out]; exact HS4.out
omit h0 in
set_option maxHeartbeats 4000000 in
set_option maxRecDepth 100000 in
theorem do_act (hg : goodE v = true) (hk : 2 ≤ v.k ∧ v.k ≤ 9) : Calls Tryz.prog 7 #[.agg #[.slice x.AD x.nD x.cD, .slice x.AS x.nS x.cS, .int .i64 x.nx], .agg #[.int .i64 v.k, .int .i64 v.now, .int .i64 v.sg, .string v.nm, .int .i64 v.r.sg, .int .i64 v.r.sp, .bool v.r.un, .int .i64 v.r.tr, .bool v.r.good, .string v.dn, .int .i64 v.dl, .slice A n c], .int .i64 lim] w (DoIs w x v lim) := by
  obtain ⟨hF0, hZ0, hX6⟩ := four_new w x v A n c
  have HX6 := Lib.hid hX6
  have HZ := Lib.hid hZ0
  have H4 := Lib.hid hF0
  have hfew : x.nD ≤ 64 := by have h1 := hx.lD; have h2 := hi.ok.ds.few; have h3 : x.st.ds.length = x.dx.length := List.length_map _; omega
  have HOW := Lib.hid (own_any16 x ((((w.alloc (.cells #[.slice x.AD x.nD x.cD, .slice x.AS x.nS x.cS, .int .i64 x.nx] 27)).alloc (.cells #[.int .i64 v.k, .int .i64 v.now, .int .i64 v.sg, .string v.nm, .int .i64 v.r.sg, .int .i64 v.r.sp, .bool v.r.un, .int .i64 v.r.tr, .bool v.r.good, .string v.dn, .int .i64 v.dl, .slice A n c] 35)).alloc (.cells #[.slice none 0 0, .slice none 0 0, .int .i64 0] 27)).alloc (.cells #[.int .i64 0, .int .i64 0, .bool false, .int .i64 0, .string ⟨#[]⟩, .string ⟨#[]⟩] 37)) (hx.on hF0.bel) (by omega) hb2)
  have HGV := Lib.hid (fun W (hW : Below w.heap.size w W) => Co.good_ev v A n c W (hv.on hW))
  have HHX := Lib.hid hx
  have HHV := Lib.hid hv
  have HGS := Lib.hid (fun W (hW : Below w.heap.size w W) => good16_any x W (hx.on hW) (tab_below ht hW) (by omega) hb2)
  rw [stB_ok hi.ok] at HGS
  rw [hg] at HGV
  have hny : ∀ {W : World} {y : SV}, Here W (w.heap.size + 2) (w.heap.size + 4) y → y.st = x.st → y.nD ≤ 1000000 ∧ y.nS ≤ 1000000000 := fun {W y} hH hy => by
    have h1 : y.st.ds.length = y.dx.length := List.length_map _
    have h2 : x.st.ds.length = x.dx.length := List.length_map _
    have h3 : y.gs = x.gs := congrArg Ms.gs hy
    have h4 := hH.own.lD
    have h5 := hH.own.lS
    have h6 := hx.lS
    have h7 := hi.ok.ds.few
    rw [hy] at h1
    rw [h3] at h5
    exact ⟨by omega, by omega⟩
  have HF : Hid (doS x.st v lim = actS x.st v) := Lib.hid (by unfold doS; rw [if_neg (by rw [hg]; simp), if_neg (show ¬ v.k = 0 by omega), if_neg (show ¬ v.k = 1 by omega), if_neg (show ¬ v.k = 10 by omega)])
  have HD := Lib.hid (fun W y (hH : Here W (w.heap.size + 2) (w.heap.size + 4) y) (hy : y.st = x.st) (hW : Below w.heap.size w W) => by
    have hr := act_any y (w.heap.size + 2) (w.heap.size + 4) v A n c W hH (hny hH hy).1 (hny hH hy).2 (by rw [hy]; exact hi) (tab_below ht hW) hk
    unfold ActIs at hr
    rw [hy] at hr
    exact hr)
  have e0 : (v.k == 0) = false := by simp; omega
  have e1 : (v.k == 1) = false := by simp; omega
  have e10 : (v.k == 10) = false := by simp; omega
  clear hk hg hny
  clear hF0 hZ0 hX6 hx hv
  go_enter Tryz.func7, Tryz.ntmps7
  go_upto_region 1 with fail
  generalize ((((w.alloc (.cells #[.slice x.AD x.nD x.cD, .slice x.AS x.nS x.cS, .int .i64 x.nx] 27)).alloc (.cells #[.int .i64 v.k, .int .i64 v.now, .int .i64 v.sg, .string v.nm, .int .i64 v.r.sg, .int .i64 v.r.sp, .bool v.r.un, .int .i64 v.r.tr, .bool v.r.good, .string v.dn, .int .i64 v.dl, .slice A n c] 35)).alloc (.cells #[.slice none 0 0, .slice none 0 0, .int .i64 0] 27)).alloc (.cells #[.int .i64 0, .int .i64 0, .bool false, .int .i64 0, .string ⟨#[]⟩, .string ⟨#[]⟩] 37)) = W0 at *
  obtain ⟨k0, k1, k2⟩ := four_cells H4.out
  go_upto_region 2 with (first
    | (go_at_call 15; (with_reducible refine HOW.out.mono ?_); rintro e w1 ⟨y0, rfl, ho, hst, hb1⟩; have HST := Lib.hid hst; have HC1 := Lib.hid (here_copy H4.out HZ.out hb1 HX6.out ho); have HB6 := Lib.hid (HX6.out.below hb1 HX6.out.lt); clear hst ho hb1)
    | (refine wpList_store_row rfl 27 _ _ rfl (w.heap.size + 2) 27 #[.slice none 0 0, .slice none 0 0, .int .i64 0] y0.arr rfl rfl HB6.out (sizeT y0) rfl (oneT y0) ?_))
  clear k0 k1 k2 HB6 HOW HX6 HZ H4
  generalize w1.setRow (w.heap.size + 2) y0.arr = W1 at *
  have H4 := Lib.hid HC1.out.1
  have HH1 := Lib.hid HC1.out.2
  clear HC1
  obtain ⟨a0, a1, a2, a3, a4, a5, a6, a7, a8, a9, a10, a11⟩ := evc H4.out.v4
  go_upto_region 14 with (first
    | (go_at_call 16; (with_reducible refine (HGV.out _ H4.out.bel).mono ?_); rintro e w2 ⟨rfl, hb2'⟩; have H42 := Lib.hid (H4.out.on hb2'); have HH2 := Lib.hid (HH1.out.below hb2'); obtain ⟨k0, k1, k2⟩ := four_cells H42.out; obtain ⟨i0, i1, i2, i3, i4, i5, i6, i7, i8, i9, i10, i11⟩ := evc H42.out.v4; clear hb2')
    | (go_at_call 10; (with_reducible refine (HGS.out _ H42.out.bel).mono ?_); rintro e w3 ⟨rfl, hb3'⟩; have H43 := Lib.hid (H42.out.on hb3'); have HH3 := Lib.hid (HH2.out.below hb3'); obtain ⟨j0, j1, j2, j3, j4, j5, j6, j7, j8, j9, j10, j11⟩ := evc H43.out.v4; clear hb3')
    | (go_at_call 20; (with_reducible refine (HD.out _ _ HH3.out HST.out H43.out.bel).mono ?_); rintro e w4 ⟨y1, rfl, hH, hst, hF⟩; have HH4 := Lib.hid hH; have HS4 := Lib.hid hst; have HC4 : Hid (Box w4 (w.heap.size + 3) 37 cm0.arr) := Lib.hid (hF.box H43.out.c7 (by omega) (by omega)); have HB4 : Hid (Below w.heap.size w w4) := Lib.hid (H43.out.bel.trans (hF.below (by omega) (by omega))); clear hH hst hF)
    | (refine wpList_store_row rfl 37 _ _ rfl (w.heap.size + 3) 37 cm0.arr (actS x.st v).2.1.arr rfl rfl HC4.out (Sa.sizeC _) rfl (Sa.oneC _) ?_))
  have HH5 := Lib.hid (here_off HH4.out HC4.out (by decide) (by decide) (by decide) (by decide) (actS x.st v).2.1.arr)
  have HC5 := Lib.hid (Sa.box_row HC4.out (actS x.st v).2.1.arr)
  have HB5 := Lib.hid (Sa.below_row HB4.out (show w.heap.size ≤ (w.heap.size + 3) by omega) (actS x.st v).2.1.arr)
  generalize w4.setRow (w.heap.size + 3) (actS x.st v).2.1.arr = W5 at *
  have HSS : Hid ((fun u => Box u (w.heap.size + 2) 27 y1.arr ∧ Box u (w.heap.size + 3) 37 (actS x.st v).2.1.arr) (W5.drew)) := Lib.hid ⟨HH5.out.box.below (Below.drew (Below.refl _ _)) HH5.out.box.lt, HC5.out.below (Below.drew (Below.refl _ _)) HC5.out.lt⟩
  obtain ⟨z0, z1, z2, yc0, yc1, yc2, yc3, yc4, yc5⟩ := do_cells w y1 (actS x.st v).2.1
  refine wp_region_held_drew (S := fun u => Box u (w.heap.size + 2) 27 y1.arr ∧ Box u (w.heap.size + 3) 37 (actS x.st v).2.1.arr) (by kernel_rfl) (HSS.out) (fun hHeld => ?_)
  refine Un.tk 0 45 rfl ?_
  refine Un.tk 1 46 rfl ?_
  refine Un.tk 2 47 rfl ?_
  have HS6 : Hid ((fun u => Box u (w.heap.size + 2) 27 y1.arr ∧ Box u (w.heap.size + 3) 37 (actS x.st v).2.1.arr) (W5.drew.setRow (w.heap.size + 2) y1.arr)) := Lib.hid ⟨Sa.box_row HSS.out.1 _, Sa.box_far HSS.out.2 (by omega) _⟩
  refine Sa.st1 3 27 _ _ rfl (w.heap.size + 2) 27 y1.arr y1.arr rfl rfl HSS.out.1 (sizeT _) rfl (oneT _) HS6.out (fun hHeld => ?_)
  have HS7 : Hid ((fun u => Box u (w.heap.size + 2) 27 y1.arr ∧ Box u (w.heap.size + 3) 37 (actS x.st v).2.1.arr) ((W5.drew.setRow (w.heap.size + 2) y1.arr).setRow (w.heap.size + 3) (actS x.st v).2.1.arr)) := Lib.hid ⟨Sa.box_far HS6.out.1 (by omega) _, Sa.box_row HS6.out.2 _⟩
  refine Sa.st1 4 37 _ _ rfl (w.heap.size + 3) 37 (actS x.st v).2.1.arr (actS x.st v).2.1.arr rfl rfl HS6.out.2 (Sa.sizeC _) rfl (Sa.oneC _) HS7.out (fun hHeld => ?_)
  refine Un.tk 5 8 rfl ?_
  refine wpAnyH_done (by kernel_rfl) ?_ _
  go_wp2
  refine bodyPost_ret (res_st_cm_tmp rfl _ _ (w.heap.size + 2) (w.heap.size + 3) y1 (actS x.st v).2.1 rfl rfl HS7.out.1 HS7.out.2) rfl ?_
  have HE := do_end (w := w) (HB5.out.drew) (HH5.out.below (Below.drew (Below.refl _ _))) HSS.out.2 rfl
  refine ⟨y1, ?_, HE.1, ?_, HE.2⟩
  · rw [HF.out]; rfl
  · rw [HF.out]; exact HS4.out
theorem do_any16 : Calls Tryz.prog 7 #[.agg #[.slice x.AD x.nD x.cD, .slice x.AS x.nS x.cS, .int .i64 x.nx], .agg #[.int .i64 v.k, .int .i64 v.now, .int .i64 v.sg, .string v.nm, .int .i64 v.r.sg, .int .i64 v.r.sp, .bool v.r.un, .int .i64 v.r.tr, .bool v.r.good, .string v.dn, .int .i64 v.dl, .slice A n c], .int .i64 lim] w (DoIs w x v lim) := by
  cases hg : goodE v with
  | false => exact do_bad x v A n c lim w hx hi hb2 hv hg
  | true =>
    have hk := (good_ev_parts hg).1
    by_cases h1 : v.k = 0
    · exact do_define x v A n c lim w hx hi hb2 hv h0 ht hg h1
    · by_cases h2 : v.k = 1
      · exact do_start x v A n c lim w hx hi hb2 hv ht hg h2
      · by_cases h3 : v.k = 10
        · exact do_forget x v A n c lim w hx hi hb2 hv ht hg h3
        · exact do_act x v A n c lim w hx hi hb2 hv ht hg (by omega)
end
end Go.Proofs.YteejocnogpaifaaGreatDoor.Tt
