/-
  What the document's Do of states answers: what is not right; definitions.
  Conditions: the state and the event lie in memory, the state is right, it has fewer than 1,048,576 sagas; texts are of a moderate size.
-/
import Derived.Test.YteejocnogpaifaaGreatDoorStaRApp
import Derived.Test.YteejocnogpaifaaGreatDoorMrg1
import Derived.Test.YteejocnogpaifaaGreatDoorCodRGood
import Derived.Deep.RegionHeld3
import Derived.BigQuiet
import Derived.IntWalk
namespace Go.Proofs.YteejocnogpaifaaGreatDoor.Tt
open Go.RowKit
open Go.Proofs.YteejocnogpaifaaGreatDoor.El
open Go.Proofs.YteejocnogpaifaaGreatDoor.Df
open Go.Proofs.YteejocnogpaifaaGreatDoor.Un
open Go.Proofs.YteejocnogpaifaaGreatDoor.Bo (P Made ret_int ret_bool)
open Go.Proofs.YteejocnogpaifaaGreatDoor.Sa (Sg Cm Rp cm0)
open Go.Proofs.YteejocnogpaifaaGreatDoor.Co (Ev Mod evc EvIn goodE)
/-- what the document's Do answers -/
def RDoIs (w : World) (x : SV) (v : Ev) (lim : Int) (e : Ending) (w' : World) : Prop :=
  ∃ y : SV, e = .returned (.tuple #[.agg y.arr, .agg (doS x.st v lim).2.1.arr, .int .i64 (doS x.st v lim).2.2]) ∧ SIn w' y ∧ y.st = (doS x.st v lim).1 ∧ Below w.heap.size w w'
/-- what the drawn returns load -/
def RS (w : World) (Y : SV) (C : Cm) (u : World) : Prop := Box u w.heap.size 27 Y.arr ∧ Box u (w.heap.size + 4) 37 C.arr
theorem rs_start {w W : World} {z : SV} {v : Ev} {A : Option Addr} {n c : Nat} {C : Cm} (h : Five w W z v A n c C) : RS w z C W.drew := ⟨h.drew.x3, h.drew.c9⟩
theorem rs_far {w u : World} {Y : SV} {C : Cm} (h : RS w Y C u) {p : Nat} (h1 : w.heap.size ≠ p) (h2 : w.heap.size + 4 ≠ p) (cs : Array Value) : RS w Y C (u.setRow p cs) := ⟨Sa.box_far h.1 h1 _, Sa.box_far h.2 h2 _⟩
theorem rs_cells (w : World) (Y : SV) (C : Cm) : (∀ u, RS w Y C u → u.cell? ⟨w.heap.size, 0, none⟩ = some (.slice Y.AD Y.nD Y.cD)) ∧ (∀ u, RS w Y C u → u.cell? ⟨w.heap.size, 1, none⟩ = some (.slice Y.AS Y.nS Y.cS)) ∧ (∀ u, RS w Y C u → u.cell? ⟨w.heap.size, 2, none⟩ = some (.int .i64 Y.nx)) ∧ (∀ u, RS w Y C u → u.cell? ⟨w.heap.size + 1 + 1 + 1 + 1, 0, none⟩ = some (.int .i64 C.sg)) ∧ (∀ u, RS w Y C u → u.cell? ⟨w.heap.size + 1 + 1 + 1 + 1, 1, none⟩ = some (.int .i64 C.sp)) ∧ (∀ u, RS w Y C u → u.cell? ⟨w.heap.size + 1 + 1 + 1 + 1, 2, none⟩ = some (.bool C.un)) ∧ (∀ u, RS w Y C u → u.cell? ⟨w.heap.size + 1 + 1 + 1 + 1, 3, none⟩ = some (.int .i64 C.tr)) ∧ (∀ u, RS w Y C u → u.cell? ⟨w.heap.size + 1 + 1 + 1 + 1, 4, none⟩ = some (.string C.pt)) ∧ (∀ u, RS w Y C u → u.cell? ⟨w.heap.size + 1 + 1 + 1 + 1, 5, none⟩ = some (.string C.key)) :=
  ⟨fun _ h => h.1.cell 0, fun _ h => h.1.cell 1, fun _ h => h.1.cell 2, fun _ h => h.2.cell 0, fun _ h => h.2.cell 1, fun _ h => h.2.cell 2, fun _ h => h.2.cell 3, fun _ h => h.2.cell 4, fun _ h => h.2.cell 5⟩
section
variable (x : SV) (v : Ev) (A : Option Addr) (n c : Nat) (lim : Int) (w : World) (hx : SIn w x) (hi : Inv x.st) (hb2 : x.nS < 1048576) (hv : EvIn w v A n c) (h0 : A = none → n = 0 ∧ c = 0) (ht : Df.Tab w)
include hx hi hb2 hv h0 ht
omit h0 in
set_option maxHeartbeats 4000000 in
set_option maxRecDepth 100000 in
theorem rdo_bad (hg : goodE v = false) : Calls Tryz.prog 8 #[.agg #[.slice x.AD x.nD x.cD, .slice x.AS x.nS x.cS, .int .i64 x.nx], .agg #[.int .i64 v.k, .int .i64 v.now, .int .i64 v.sg, .string v.nm, .int .i64 v.r.sg, .int .i64 v.r.sp, .bool v.r.un, .int .i64 v.r.tr, .bool v.r.good, .string v.dn, .int .i64 v.dl, .slice A n c], .int .i64 lim] w (RDoIs w x v lim) := by
  have hfew : x.nD ≤ 64 := by have h1 := hx.lD; have h2 := hi.ok.ds.few; have h3 : x.st.ds.length = x.dx.length := List.length_map _; omega
  obtain ⟨hF0, hZ0, hX6⟩ := four_new w x v A n c
  have H50 : Hid (Five w (((((w.alloc (.cells #[.slice x.AD x.nD x.cD, .slice x.AS x.nS x.cS, .int .i64 x.nx] 27)).alloc (.cells #[.int .i64 v.k, .int .i64 v.now, .int .i64 v.sg, .string v.nm, .int .i64 v.r.sg, .int .i64 v.r.sp, .bool v.r.un, .int .i64 v.r.tr, .bool v.r.good, .string v.dn, .int .i64 v.dl, .slice A n c] 35)).alloc (.cells #[.slice none 0 0, .slice none 0 0, .int .i64 0] 27)).alloc (.cells #[.int .i64 0, .int .i64 0, .bool false, .int .i64 0, .string ⟨#[]⟩, .string ⟨#[]⟩] 37)).alloc (.cells #[.int .i64 0, .int .i64 0, .bool false, .int .i64 0, .string ⟨#[]⟩, .string ⟨#[]⟩] 37)) x v A n c cm0) := Lib.hid (five_new hF0 hZ0 hX6 hx)
  have HGV := Lib.hid (fun W (hW : Below w.heap.size w W) => Co.rgoodE_any v A n c W (hv.on hW))
  have HGS := Lib.hid (fun W (hW : Below w.heap.size w W) => rgood16_any x W (hx.on hW) hi (tab_below ht hW) (by omega))
  rw [hg] at HGV
  have HF : Hid (doS x.st v lim = (x.st, cm0, 3)) := Lib.hid (by unfold doS; rw [if_pos hg])
  clear hg
  clear hF0 hZ0 hX6
  go_enter Tryz.func8, Tryz.ntmps8
  go_upto_region 2 with fail
  generalize (((((w.alloc (.cells #[.slice x.AD x.nD x.cD, .slice x.AS x.nS x.cS, .int .i64 x.nx] 27)).alloc (.cells #[.int .i64 v.k, .int .i64 v.now, .int .i64 v.sg, .string v.nm, .int .i64 v.r.sg, .int .i64 v.r.sp, .bool v.r.un, .int .i64 v.r.tr, .bool v.r.good, .string v.dn, .int .i64 v.dl, .slice A n c] 35)).alloc (.cells #[.slice none 0 0, .slice none 0 0, .int .i64 0] 27)).alloc (.cells #[.int .i64 0, .int .i64 0, .bool false, .int .i64 0, .string ⟨#[]⟩, .string ⟨#[]⟩] 37)).alloc (.cells #[.int .i64 0, .int .i64 0, .bool false, .int .i64 0, .string ⟨#[]⟩, .string ⟨#[]⟩] 37)) = W1 at *
  obtain ⟨k0, k1, k2, k3, k4, k5, k6, k7, k8, k9, k10, k11⟩ := evc H50.out.v4
  go_upto_region 3 with ((go_at_call 21; (with_reducible refine (HGV.out _ H50.out.bel).mono ?_); rintro e w2 ⟨rfl, hb2'⟩; have H52 := Lib.hid (H50.out.on hb2'); obtain ⟨b0, b1, b2⟩ := H52.out.cells; clear hb2'))
  clear HGV HGS H50
  clear k0 k1 k2 k3 k4 k5 k6 k7 k8 k9 k10 k11
  clear b0 b1 b2
  have HSS := Lib.hid (rs_start H52.out)
  obtain ⟨z0, z1, z2, yc0, yc1, yc2, yc3, yc4, yc5⟩ := rs_cells w x cm0
  refine wp_region_held_drew (S := RS w x cm0) (by kernel_rfl) HSS.out (fun hHeld => ?_)
  refine Un.tk 0 19 rfl ?_
  refine Un.tk 1 20 rfl ?_
  have HS6 := Lib.hid (rs_far HSS.out (p := w.heap.size + 2) (by omega) (by omega) x.arr)
  refine Sa.st1 2 27 _ _ rfl (w.heap.size + 2) 27 #[.slice none 0 0, .slice none 0 0, .int .i64 0] x.arr rfl rfl H52.out.drew.r6 (sizeT x) rfl (oneT _) HS6.out (fun hHeld => ?_)
  have HS7 := Lib.hid (rs_far HS6.out (p := w.heap.size + 3) (by omega) (by omega) cm0.arr)
  refine Sa.st1 3 37 _ _ rfl (w.heap.size + 3) 37 cm0.arr cm0.arr rfl rfl (Sa.box_far H52.out.drew.r7 (by omega) _) (Sa.sizeC _) rfl (Sa.oneC _) HS7.out (fun hHeld => ?_)
  refine Un.tk 4 8 rfl ?_
  refine wpAnyH_done (by kernel_rfl) ?_ _
  go_wp2
  have HE := five_end H52.out.drew
  refine bodyPost_ret (res_st_cm_tmp rfl _ _ (w.heap.size + 2) (w.heap.size + 3) x cm0 rfl rfl HE.1 HE.2.1) rfl ?_
  refine ⟨x, ?_, HE.2.2.1, ?_, HE.2.2.2⟩
  · rw [HF.out]; rfl
  · rw [HF.out]
set_option maxHeartbeats 4000000 in
set_option maxRecDepth 100000 in
theorem rdo_there (hg : goodE v = true) (hk : v.k = 0) {i : Nat} (hf : findX x.dx v.dn = (i : Int)) : Calls Tryz.prog 8 #[.agg #[.slice x.AD x.nD x.cD, .slice x.AS x.nS x.cS, .int .i64 x.nx], .agg #[.int .i64 v.k, .int .i64 v.now, .int .i64 v.sg, .string v.nm, .int .i64 v.r.sg, .int .i64 v.r.sp, .bool v.r.un, .int .i64 v.r.tr, .bool v.r.good, .string v.dn, .int .i64 v.dl, .slice A n c], .int .i64 lim] w (RDoIs w x v lim) := by
  have hfew : x.nD ≤ 64 := by have h1 := hx.lD; have h2 := hi.ok.ds.few; have h3 : x.st.ds.length = x.dx.length := List.length_map _; omega
  obtain ⟨hF0, hZ0, hX6⟩ := four_new w x v A n c
  have H50 : Hid (Five w (((((w.alloc (.cells #[.slice x.AD x.nD x.cD, .slice x.AS x.nS x.cS, .int .i64 x.nx] 27)).alloc (.cells #[.int .i64 v.k, .int .i64 v.now, .int .i64 v.sg, .string v.nm, .int .i64 v.r.sg, .int .i64 v.r.sp, .bool v.r.un, .int .i64 v.r.tr, .bool v.r.good, .string v.dn, .int .i64 v.dl, .slice A n c] 35)).alloc (.cells #[.slice none 0 0, .slice none 0 0, .int .i64 0] 27)).alloc (.cells #[.int .i64 0, .int .i64 0, .bool false, .int .i64 0, .string ⟨#[]⟩, .string ⟨#[]⟩] 37)).alloc (.cells #[.int .i64 0, .int .i64 0, .bool false, .int .i64 0, .string ⟨#[]⟩, .string ⟨#[]⟩] 37)) x v A n c cm0) := Lib.hid (five_new hF0 hZ0 hX6 hx)
  have HGV := Lib.hid (fun W (hW : Below w.heap.size w W) => Co.rgoodE_any v A n c W (hv.on hW))
  have HGS := Lib.hid (fun W (hW : Below w.heap.size w W) => rgood16_any x W (hx.on hW) hi (tab_below ht hW) (by omega))
  have HF0 : Hid (doS x.st v lim = ((defS x.st v).1, cm0, (defS x.st v).2)) := Lib.hid (by unfold doS; rw [if_neg (by rw [hg]; simp), if_pos hk])
  have HFD := Lib.hid (fun W (hW : Below w.heap.size w W) => rfindD_any x v.dn W (hx.on hW) (by have := hx.lD; have h2 := hi.ok.ds.few; have h3 : x.st.ds.length = x.dx.length := List.length_map _; omega))
  have e0 : (v.k == 0) = true := by simp; omega
  rw [hg] at HGV
  have HX := Lib.hid hx
  have HL := Lib.hid hx.lD
  have HDY : Hid (DIn w ⟨v.dn, v.dl, v.ss, A, n, c⟩) := Lib.hid ⟨hv.hn, hv.hc, hv.mod, hv.st, h0⟩
  clear hk hg
  rw [hf] at HFD
  have HF : Hid (doS x.st v lim = (x.st, cm0, 6)) := Lib.hid (by rw [HF0.out, defS_there hf])
  clear hf HF0
  clear hF0 hZ0 hX6
  go_enter Tryz.func8, Tryz.ntmps8
  go_upto_region 2 with fail
  generalize (((((w.alloc (.cells #[.slice x.AD x.nD x.cD, .slice x.AS x.nS x.cS, .int .i64 x.nx] 27)).alloc (.cells #[.int .i64 v.k, .int .i64 v.now, .int .i64 v.sg, .string v.nm, .int .i64 v.r.sg, .int .i64 v.r.sp, .bool v.r.un, .int .i64 v.r.tr, .bool v.r.good, .string v.dn, .int .i64 v.dl, .slice A n c] 35)).alloc (.cells #[.slice none 0 0, .slice none 0 0, .int .i64 0] 27)).alloc (.cells #[.int .i64 0, .int .i64 0, .bool false, .int .i64 0, .string ⟨#[]⟩, .string ⟨#[]⟩] 37)).alloc (.cells #[.int .i64 0, .int .i64 0, .bool false, .int .i64 0, .string ⟨#[]⟩, .string ⟨#[]⟩] 37)) = W1 at *
  obtain ⟨k0, k1, k2, k3, k4, k5, k6, k7, k8, k9, k10, k11⟩ := evc H50.out.v4
  go_upto_region 8 with (first
    | (go_at_call 21; (with_reducible refine (HGV.out _ H50.out.bel).mono ?_); rintro e w2 ⟨rfl, hb2'⟩; have H52 := Lib.hid (H50.out.on hb2'); obtain ⟨b0, b1, b2⟩ := H52.out.cells; clear hb2')
    | (go_at_call 22; (with_reducible refine (HGS.out _ H52.out.bel).mono ?_); rintro e w3 ⟨rfl, hb3'⟩; have H53 := Lib.hid (H52.out.on hb3'); obtain ⟨c0, c1, c2⟩ := H53.out.cells; obtain ⟨j0, j1, j2, j3, j4, j5, j6, j7, j8, j9, j10, j11⟩ := evc H53.out.v4; clear hb3')
    | (go_at_call 11; (with_reducible refine (HFD.out _ H53.out.bel).mono ?_); rintro e w4 ⟨rfl, hm4⟩; have H54 := Lib.hid (H53.out.on hm4.below); obtain ⟨d0, d1, d2⟩ := H54.out.cells; clear hm4))
  clear HGV HGS HFD H50 H52 H53
  clear k0 k1 k2 k3 k4 k5 k6 k7 k8 k9 k10 k11 b0 b1 b2 c0 c1 c2 j0 j1 j2 j3 j4 j5 j6 j7 j8 j9 j10 j11 d0 d1 d2
  have HSS := Lib.hid (rs_start H54.out)
  obtain ⟨z0, z1, z2, yc0, yc1, yc2, yc3, yc4, yc5⟩ := rs_cells w x cm0
  refine wp_region_held_drew (S := RS w x cm0) (by kernel_rfl) HSS.out (fun hHeld => ?_)
  refine Un.tk 0 35 rfl ?_
  refine Un.tk 1 36 rfl ?_
  have HS6 := Lib.hid (rs_far HSS.out (p := w.heap.size + 2) (by omega) (by omega) x.arr)
  refine Sa.st1 2 27 _ _ rfl (w.heap.size + 2) 27 #[.slice none 0 0, .slice none 0 0, .int .i64 0] x.arr rfl rfl H54.out.drew.r6 (sizeT x) rfl (oneT _) HS6.out (fun hHeld => ?_)
  have HS7 := Lib.hid (rs_far HS6.out (p := w.heap.size + 3) (by omega) (by omega) cm0.arr)
  refine Sa.st1 3 37 _ _ rfl (w.heap.size + 3) 37 cm0.arr cm0.arr rfl rfl (Sa.box_far H54.out.drew.r7 (by omega) _) (Sa.sizeC _) rfl (Sa.oneC _) HS7.out (fun hHeld => ?_)
  refine Un.tk 4 8 rfl ?_
  refine wpAnyH_done (by kernel_rfl) ?_ _
  go_wp2
  have HE := five_end H54.out.drew
  refine bodyPost_ret (res_st_cm_tmp rfl _ _ (w.heap.size + 2) (w.heap.size + 3) x cm0 rfl rfl HE.1 HE.2.1) rfl ?_
  refine ⟨x, ?_, HE.2.2.1, ?_, HE.2.2.2⟩
  · rw [HF.out]; rfl
  · rw [HF.out]
set_option maxHeartbeats 4000000 in
set_option maxRecDepth 100000 in
theorem rdo_full (hg : goodE v = true) (hk : v.k = 0) (hf : findX x.dx v.dn = -1) (hl : 64 ≤ x.nD) : Calls Tryz.prog 8 #[.agg #[.slice x.AD x.nD x.cD, .slice x.AS x.nS x.cS, .int .i64 x.nx], .agg #[.int .i64 v.k, .int .i64 v.now, .int .i64 v.sg, .string v.nm, .int .i64 v.r.sg, .int .i64 v.r.sp, .bool v.r.un, .int .i64 v.r.tr, .bool v.r.good, .string v.dn, .int .i64 v.dl, .slice A n c], .int .i64 lim] w (RDoIs w x v lim) := by
  have hfew : x.nD ≤ 64 := by have h1 := hx.lD; have h2 := hi.ok.ds.few; have h3 : x.st.ds.length = x.dx.length := List.length_map _; omega
  obtain ⟨hF0, hZ0, hX6⟩ := four_new w x v A n c
  have H50 : Hid (Five w (((((w.alloc (.cells #[.slice x.AD x.nD x.cD, .slice x.AS x.nS x.cS, .int .i64 x.nx] 27)).alloc (.cells #[.int .i64 v.k, .int .i64 v.now, .int .i64 v.sg, .string v.nm, .int .i64 v.r.sg, .int .i64 v.r.sp, .bool v.r.un, .int .i64 v.r.tr, .bool v.r.good, .string v.dn, .int .i64 v.dl, .slice A n c] 35)).alloc (.cells #[.slice none 0 0, .slice none 0 0, .int .i64 0] 27)).alloc (.cells #[.int .i64 0, .int .i64 0, .bool false, .int .i64 0, .string ⟨#[]⟩, .string ⟨#[]⟩] 37)).alloc (.cells #[.int .i64 0, .int .i64 0, .bool false, .int .i64 0, .string ⟨#[]⟩, .string ⟨#[]⟩] 37)) x v A n c cm0) := Lib.hid (five_new hF0 hZ0 hX6 hx)
  have HGV := Lib.hid (fun W (hW : Below w.heap.size w W) => Co.rgoodE_any v A n c W (hv.on hW))
  have HGS := Lib.hid (fun W (hW : Below w.heap.size w W) => rgood16_any x W (hx.on hW) hi (tab_below ht hW) (by omega))
  have HF0 : Hid (doS x.st v lim = ((defS x.st v).1, cm0, (defS x.st v).2)) := Lib.hid (by unfold doS; rw [if_neg (by rw [hg]; simp), if_pos hk])
  have HFD := Lib.hid (fun W (hW : Below w.heap.size w W) => rfindD_any x v.dn W (hx.on hW) (by have := hx.lD; have h2 := hi.ok.ds.few; have h3 : x.st.ds.length = x.dx.length := List.length_map _; omega))
  have e0 : (v.k == 0) = true := by simp; omega
  rw [hg] at HGV
  have HX := Lib.hid hx
  have HL := Lib.hid hx.lD
  have HDY : Hid (DIn w ⟨v.dn, v.dl, v.ss, A, n, c⟩) := Lib.hid ⟨hv.hn, hv.hc, hv.mod, hv.st, h0⟩
  clear hk hg
  rw [hf] at HFD
  have HF : Hid (doS x.st v lim = (x.st, cm0, 8)) := Lib.hid (by rw [HF0.out, defS_full hf (by rw [← hx.lD]; exact hl)])
  have hl2 : (64 : Int) ≤ (x.nD : Int) := by omega
  clear hf HF0
  clear hF0 hZ0 hX6
  go_enter Tryz.func8, Tryz.ntmps8
  go_upto_region 2 with fail
  generalize (((((w.alloc (.cells #[.slice x.AD x.nD x.cD, .slice x.AS x.nS x.cS, .int .i64 x.nx] 27)).alloc (.cells #[.int .i64 v.k, .int .i64 v.now, .int .i64 v.sg, .string v.nm, .int .i64 v.r.sg, .int .i64 v.r.sp, .bool v.r.un, .int .i64 v.r.tr, .bool v.r.good, .string v.dn, .int .i64 v.dl, .slice A n c] 35)).alloc (.cells #[.slice none 0 0, .slice none 0 0, .int .i64 0] 27)).alloc (.cells #[.int .i64 0, .int .i64 0, .bool false, .int .i64 0, .string ⟨#[]⟩, .string ⟨#[]⟩] 37)).alloc (.cells #[.int .i64 0, .int .i64 0, .bool false, .int .i64 0, .string ⟨#[]⟩, .string ⟨#[]⟩] 37)) = W1 at *
  obtain ⟨k0, k1, k2, k3, k4, k5, k6, k7, k8, k9, k10, k11⟩ := evc H50.out.v4
  go_upto_region 10 with (first
    | (go_at_call 21; (with_reducible refine (HGV.out _ H50.out.bel).mono ?_); rintro e w2 ⟨rfl, hb2'⟩; have H52 := Lib.hid (H50.out.on hb2'); obtain ⟨b0, b1, b2⟩ := H52.out.cells; clear hb2')
    | (go_at_call 22; (with_reducible refine (HGS.out _ H52.out.bel).mono ?_); rintro e w3 ⟨rfl, hb3'⟩; have H53 := Lib.hid (H52.out.on hb3'); obtain ⟨c0, c1, c2⟩ := H53.out.cells; obtain ⟨j0, j1, j2, j3, j4, j5, j6, j7, j8, j9, j10, j11⟩ := evc H53.out.v4; clear hb3')
    | (go_at_call 11; (with_reducible refine (HFD.out _ H53.out.bel).mono ?_); rintro e w4 ⟨rfl, hm4⟩; have H54 := Lib.hid (H53.out.on hm4.below); obtain ⟨d0, d1, d2⟩ := H54.out.cells; clear hm4))
  clear HGV HGS HFD H50 H52 H53
  clear k0 k1 k2 k3 k4 k5 k6 k7 k8 k9 k10 k11 b0 b1 b2 c0 c1 c2 j0 j1 j2 j3 j4 j5 j6 j7 j8 j9 j10 j11 d0 d1 d2
  have HSS := Lib.hid (rs_start H54.out)
  obtain ⟨z0, z1, z2, yc0, yc1, yc2, yc3, yc4, yc5⟩ := rs_cells w x cm0
  refine wp_region_held_drew (S := RS w x cm0) (by kernel_rfl) HSS.out (fun hHeld => ?_)
  refine Un.tk 0 41 rfl ?_
  refine Un.tk 1 42 rfl ?_
  have HS6 := Lib.hid (rs_far HSS.out (p := w.heap.size + 2) (by omega) (by omega) x.arr)
  refine Sa.st1 2 27 _ _ rfl (w.heap.size + 2) 27 #[.slice none 0 0, .slice none 0 0, .int .i64 0] x.arr rfl rfl H54.out.drew.r6 (sizeT x) rfl (oneT _) HS6.out (fun hHeld => ?_)
  have HS7 := Lib.hid (rs_far HS6.out (p := w.heap.size + 3) (by omega) (by omega) cm0.arr)
  refine Sa.st1 3 37 _ _ rfl (w.heap.size + 3) 37 cm0.arr cm0.arr rfl rfl (Sa.box_far H54.out.drew.r7 (by omega) _) (Sa.sizeC _) rfl (Sa.oneC _) HS7.out (fun hHeld => ?_)
  refine Un.tk 4 8 rfl ?_
  refine wpAnyH_done (by kernel_rfl) ?_ _
  go_wp2
  have HE := five_end H54.out.drew
  refine bodyPost_ret (res_st_cm_tmp rfl _ _ (w.heap.size + 2) (w.heap.size + 3) x cm0 rfl rfl HE.1 HE.2.1) rfl ?_
  refine ⟨x, ?_, HE.2.2.1, ?_, HE.2.2.2⟩
  · rw [HF.out]; rfl
  · rw [HF.out]
set_option maxHeartbeats 4000000 in
set_option maxRecDepth 100000 in
theorem rdo_put (hg : goodE v = true) (hk : v.k = 0) (hf : findX x.dx v.dn = -1) (hl : ¬ 64 ≤ x.nD) : Calls Tryz.prog 8 #[.agg #[.slice x.AD x.nD x.cD, .slice x.AS x.nS x.cS, .int .i64 x.nx], .agg #[.int .i64 v.k, .int .i64 v.now, .int .i64 v.sg, .string v.nm, .int .i64 v.r.sg, .int .i64 v.r.sp, .bool v.r.un, .int .i64 v.r.tr, .bool v.r.good, .string v.dn, .int .i64 v.dl, .slice A n c], .int .i64 lim] w (RDoIs w x v lim) := by
  have hfew : x.nD ≤ 64 := by have h1 := hx.lD; have h2 := hi.ok.ds.few; have h3 : x.st.ds.length = x.dx.length := List.length_map _; omega
  obtain ⟨hF0, hZ0, hX6⟩ := four_new w x v A n c
  have H50 : Hid (Five w (((((w.alloc (.cells #[.slice x.AD x.nD x.cD, .slice x.AS x.nS x.cS, .int .i64 x.nx] 27)).alloc (.cells #[.int .i64 v.k, .int .i64 v.now, .int .i64 v.sg, .string v.nm, .int .i64 v.r.sg, .int .i64 v.r.sp, .bool v.r.un, .int .i64 v.r.tr, .bool v.r.good, .string v.dn, .int .i64 v.dl, .slice A n c] 35)).alloc (.cells #[.slice none 0 0, .slice none 0 0, .int .i64 0] 27)).alloc (.cells #[.int .i64 0, .int .i64 0, .bool false, .int .i64 0, .string ⟨#[]⟩, .string ⟨#[]⟩] 37)).alloc (.cells #[.int .i64 0, .int .i64 0, .bool false, .int .i64 0, .string ⟨#[]⟩, .string ⟨#[]⟩] 37)) x v A n c cm0) := Lib.hid (five_new hF0 hZ0 hX6 hx)
  have HGV := Lib.hid (fun W (hW : Below w.heap.size w W) => Co.rgoodE_any v A n c W (hv.on hW))
  have HGS := Lib.hid (fun W (hW : Below w.heap.size w W) => rgood16_any x W (hx.on hW) hi (tab_below ht hW) (by omega))
  have HF0 : Hid (doS x.st v lim = ((defS x.st v).1, cm0, (defS x.st v).2)) := Lib.hid (by unfold doS; rw [if_neg (by rw [hg]; simp), if_pos hk])
  have HFD := Lib.hid (fun W (hW : Below w.heap.size w W) => rfindD_any x v.dn W (hx.on hW) (by have := hx.lD; have h2 := hi.ok.ds.few; have h3 : x.st.ds.length = x.dx.length := List.length_map _; omega))
  have e0 : (v.k == 0) = true := by simp; omega
  rw [hg] at HGV
  have HX := Lib.hid hx
  have HL := Lib.hid hx.lD
  have HDY : Hid (DIn w ⟨v.dn, v.dl, v.ss, A, n, c⟩) := Lib.hid ⟨hv.hn, hv.hc, hv.mod, hv.st, h0⟩
  clear hk hg
  rw [hf] at HFD
  have HNF := Lib.hid hf
  have HLL := Lib.hid (show ¬ 64 ≤ x.dx.length by rw [← hx.lD]; exact hl)
  have hl2 : ¬ (64 : Int) ≤ (x.nD : Int) := by omega
  have hl3 : x.nD ≤ 1000000 := by omega
  clear hf
  clear hF0 hZ0 hX6
  go_enter Tryz.func8, Tryz.ntmps8
  go_upto_region 2 with fail
  generalize (((((w.alloc (.cells #[.slice x.AD x.nD x.cD, .slice x.AS x.nS x.cS, .int .i64 x.nx] 27)).alloc (.cells #[.int .i64 v.k, .int .i64 v.now, .int .i64 v.sg, .string v.nm, .int .i64 v.r.sg, .int .i64 v.r.sp, .bool v.r.un, .int .i64 v.r.tr, .bool v.r.good, .string v.dn, .int .i64 v.dl, .slice A n c] 35)).alloc (.cells #[.slice none 0 0, .slice none 0 0, .int .i64 0] 27)).alloc (.cells #[.int .i64 0, .int .i64 0, .bool false, .int .i64 0, .string ⟨#[]⟩, .string ⟨#[]⟩] 37)).alloc (.cells #[.int .i64 0, .int .i64 0, .bool false, .int .i64 0, .string ⟨#[]⟩, .string ⟨#[]⟩] 37)) = W1 at *
  obtain ⟨k0, k1, k2, k3, k4, k5, k6, k7, k8, k9, k10, k11⟩ := evc H50.out.v4
  go_upto_region 11 with (first
    | (go_at_call 21; (with_reducible refine (HGV.out _ H50.out.bel).mono ?_); rintro e w2 ⟨rfl, hb2'⟩; have H52 := Lib.hid (H50.out.on hb2'); obtain ⟨b0, b1, b2⟩ := H52.out.cells; clear hb2')
    | (go_at_call 22; (with_reducible refine (HGS.out _ H52.out.bel).mono ?_); rintro e w3 ⟨rfl, hb3'⟩; have H53 := Lib.hid (H52.out.on hb3'); obtain ⟨c0, c1, c2⟩ := H53.out.cells; obtain ⟨j0, j1, j2, j3, j4, j5, j6, j7, j8, j9, j10, j11⟩ := evc H53.out.v4; clear hb3')
    | (go_at_call 11; (with_reducible refine (HFD.out _ H53.out.bel).mono ?_); rintro e w4 ⟨rfl, hm4⟩; have H54 := Lib.hid (H53.out.on hm4.below); obtain ⟨d0, d1, d2⟩ := H54.out.cells; clear hm4))
  clear HGV HGS HFD H50 H52 H53
  clear k0 k1 k2 k3 k4 k5 k6 k7 k8 k9 k10 k11 b0 b1 b2 c0 c1 c2 j0 j1 j2 j3 j4 j5 j6 j7 j8 j9 j10 j11 d0 d1 d2
  have HB5 := H54
  clear H54
  generalize w4 = W4 at *
  go_wp2
  go_loopw [10] (fun vi wr => ∃ k : Nat, vi = .int .i64 (k : Int) ∧ k ≤ x.nD ∧ Hid (Five w wr x v A n c cm0) ∧ Hid (∀ j, j < k → ∀ b, x.dx[j]? = some b → ltB b.nm v.dn = true)) (fun vi _ => x.nD - (intOf vi).toNat)
  case atStart => exact ⟨0, rfl, Nat.zero_le _, HB5, Lib.hid fun j hj => absurd hj (by omega)⟩
  case round =>
    clear HB5
    obtain ⟨k, rfl, hk, H5, HN⟩ := hrel
    obtain ⟨c0, c1, c2⟩ := H5.out.cells
    have d0 : wr.cell? ⟨w.heap.size + 1, 9, none⟩ = some (.string v.dn) := H5.out.v4.cell 9
    by_cases hgo : k < x.nD ∧ ∀ d, x.dx[k]? = some d → ltB d.nm v.dn = true
    · have hkn := hgo.1
      have hkb : decide (k < x.nD) = true := decide_eq_true hkn
      obtain ⟨d, hd⟩ : ∃ d, x.dx[k]? = some d := ⟨_, List.getElem?_eq_getElem (by have := HL.out; omega)⟩
      have HEL := Lib.hid H5.out.here.hD
      obtain ⟨sb, so, hA, _⟩ := HEL.out.at_ hd
      have e1 : wr.cell? ⟨sb, so + k * 3, none⟩ = some (.string d.nm) := by
        have := HEL.out
        rw [hA] at this
        exact this.get hd 0 rfl
      rw [hA] at c0
      have hlt := hgo.2 d hd
      have qs : Op.bytesLess d.nm.toList v.dn.toList = true := by rw [less_lt]; exact hlt
      have HNx : Hid (∀ j, j < k + 1 → ∀ b, x.dx[j]? = some b → ltB b.nm v.dn = true) := Lib.hid fun j hj b hb => by
        by_cases e : j = k
        · subst e
          rw [hd] at hb
          injection hb with hb
          subst hb
          exact hlt
        · exact HN.out j (by omega) b hb
      clear hlt hd hA hgo
      go_upto_region 12 with fail
      go_quiet (fail)
      have H6 : Hid (Five w (wr.drewN nq) x v A n c cm0) := Lib.hid (H5.out.on ⟨rfl, rfl, rfl, Nat.le_refl _, fun _ _ => rfl⟩)
      go_wp2
      go_roundw
      case rel => exact ⟨k + 1, by go_num, by omega, H6, HNx⟩
      case measure => simp only [intOf]; omega
    · have hst : ∀ b, x.dx[k]? = some b → ltB b.nm v.dn = false := fun b hb => by
        cases hl : ltB b.nm v.dn with
        | false => rfl
        | true => exact absurd ⟨by have := El.at_lt hb; have := HL.out; omega, fun d hd => by rw [hb] at hd; injection hd with hd; rw [← hd]; exact hl⟩ hgo
      have HST := Lib.hid hst
      have HPUT : Hid (doS x.st v lim = (⟨(x.dx.take k ++ ⟨v.dn, v.dl, v.ss, A, n, c⟩ :: x.dx.drop k).map DX.m, x.gs, x.nx⟩, cm0, 0)) := Lib.hid (by
        rw [HF0.out, defS_put HNF.out HLL.out (by have := HL.out; omega) HN.out hst (y := ⟨v.dn, v.dl, v.ss, A, n, c⟩) rfl])
      clear hst hgo
      by_cases hkn : k < x.nD
      case' pos =>
        have hkb : decide (k < x.nD) = true := decide_eq_true hkn
        obtain ⟨d, hd⟩ : ∃ d, x.dx[k]? = some d := ⟨_, List.getElem?_eq_getElem (by have := HL.out; omega)⟩
        have HEL := Lib.hid H5.out.here.hD
        obtain ⟨sb, so, hA, _⟩ := HEL.out.at_ hd
        have e1 : wr.cell? ⟨sb, so + k * 3, none⟩ = some (.string d.nm) := by
          have := HEL.out
          rw [hA] at this
          exact this.get hd 0 rfl
        rw [hA] at c0
        have hlf := HST.out d hd
        have qs : Op.bytesLess d.nm.toList v.dn.toList = false := by rw [less_lt]; exact hlf
        clear hlf hd hA
        go_upto_region 12 with fail
        go_quiet (fail)
        have H5V : Hid (Five w (wr.drewN nq) x v A n c cm0) := Lib.hid (H5.out.on ⟨rfl, rfl, rfl, Nat.le_refl _, fun _ _ => rfl⟩)
        go_upto_region 14 with fail
        clear c0 c1 c2 d0 e1 HEL H5
        generalize wr.drewN nq = V at *
      case' neg =>
        have hkb : decide (k < x.nD) = false := decide_eq_false hkn
        go_upto_region 12 with fail
        go_quiet (fail)
        have H5V : Hid (Five w (wr.drewN nq) x v A n c cm0) := Lib.hid (H5.out.on ⟨rfl, rfl, rfl, Nat.le_refl _, fun _ _ => rfl⟩)
        go_upto_region 14 with fail
        clear c0 c1 c2 d0 H5
        generalize wr.drewN nq = V at *
      all_goals
        have HDS : Hid (Five w V x v A n c cm0) := H5V
        obtain ⟨a0, a1, a2⟩ := H5V.out.cells
        have hh5 := H5V.out.sz
        have z0 : ∀ u, Below V.heap.size V u → u.cell? ⟨w.heap.size, 0, none⟩ = some (.slice x.AD x.nD x.cD) := fun u H => (H.cell (p := ⟨w.heap.size, 0, none⟩) (show w.heap.size < V.heap.size by omega)).trans (HDS.out.x3.cell 0)
        have v9 : ∀ u, Below V.heap.size V u → u.cell? ⟨w.heap.size + 1, 9, none⟩ = some (.string v.dn) := fun u H => (H.cell (p := ⟨w.heap.size + 1, 9, none⟩) (show w.heap.size + 1 < V.heap.size by omega)).trans (HDS.out.v4.cell 9)
        have v10 : ∀ u, Below V.heap.size V u → u.cell? ⟨w.heap.size + 1, 10, none⟩ = some (.int .i64 v.dl) := fun u H => (H.cell (p := ⟨w.heap.size + 1, 10, none⟩) (show w.heap.size + 1 < V.heap.size by omega)).trans (HDS.out.v4.cell 10)
        have v11 : ∀ u, Below V.heap.size V u → u.cell? ⟨w.heap.size + 1, 11, none⟩ = some (.slice A n c) := fun u H => (H.cell (p := ⟨w.heap.size + 1, 11, none⟩) (show w.heap.size + 1 < V.heap.size by omega)).trans (HDS.out.v4.cell 11)
        have cut1 := fun u => cutD_to u x.AD x.nD x.cD k (by have := HX.out.cD; omega)
        have cut2 := fun u => cutD_from u x.AD x.nD x.cD k (by omega)
        have HE1 : Hid (∀ u, Below V.heap.size V u → Els DX.cells 3 u V.heap.size x.AD (x.dx.take k)) := Lib.hid (fun u H => (HDS.out.here.hD.below H).take k)
        have HE2 : Hid (∀ u, Below V.heap.size V u → Els DX.cells 3 u V.heap.size (if x.cD = k then x.AD else x.AD.map (·.add (k * 3))) (x.dx.drop k)) := Lib.hid (fun u H => els_drop (HDS.out.here.hD.below H) (by have := HX.out.cD; have := HL.out; omega) k)
        have HY1 : Hid (∀ (u : World) (q : Nat), q = u.heap.size → Els DX.cells 3 (u.alloc (.cells #[.string v.dn, .int .i64 v.dl, .slice A n c] 33)) (q + 1) (some ⟨q, 0, none⟩) [⟨v.dn, v.dl, v.ss, A, n, c⟩]) := Lib.hid (fun u q hq => one_dx u q hq ⟨v.dn, v.dl, v.ss, A, n, c⟩)
        generalize (if x.cD = k then x.AD else x.AD.map (·.add (k * 3))) = A2 at cut2 HE2
        obtain ⟨i0, hi0, hz0, hz1, hz2⟩ := info_of infoD
        have HL1 : Hid (k = (x.dx.take k).length) := Lib.hid (by rw [List.length_take]; have := HL.out; omega)
        have HL2 : Hid (x.nD - k = (x.dx.drop k).length) := Lib.hid (by rw [List.length_drop]; have := HL.out; omega)
        have hl1 := HL1.out
        have hl2 := HL2.out
        clear a0 a1 a2 hh5 hl1 hl2
        refine u_start (S := fun u => Below V.heap.size V u) 16 (by kernel_rfl) (Below.drew (Below.refl _ V)) (fun hHeld => ?_)
        refine Un.utk 1 63 [2, 4, 5, 9, 14, 16] rfl ?_
        refine Un.utk 2 64 [4, 5, 9, 14, 16] rfl ?_
        refine Un.utk 3 65 [4, 5, 9, 14, 16] rfl ?_
        refine Un.utk 4 66 [5, 9, 14, 16] rfl ?_
        refine Un.utk 6 68 [7, 8, 9, 14, 16] rfl ?_
        refine Un.utk 7 69 [8, 9, 14, 16] rfl ?_
        refine Un.utk 10 72 [11, 13, 14, 16] rfl ?_
        refine Un.utk 11 73 [13, 14, 16] rfl ?_
        refine Un.utk 12 74 [13, 14, 16] rfl ?_
        refine Un.utk 13 75 [14, 16] rfl ?_
        have HU0 : Hid (Below V.heap.size V V.drew ∧ V.drew.heap.size = V.heap.size) := Lib.hid ⟨hHeld, rfl⟩
        clear hHeld
        generalize V.drew = U0 at *
        have hu0 := HU0.out.1
        have hu0z := HU0.out.1.size
        refine u_ready (rs := [0, 8]) (by decide +kernel) (by simp) ?_
        refine u_cons (o := ⟨some 62, _, _, _, _, _⟩) rfl (fun K hK => ?_) (u_cons (o := ⟨some 70, _, _, _, _, _⟩) rfl (fun K hK => ?_) u_nil)
        · go_simp
          have hb1 := hu0.alloc hu0z (.cells #[] 33)
          refine hK.out _ _ (fun _ => hb1) (fun _ => ?_)
          clear hK K
          (try simp only [Act.put, List.setIfInBounds_toArray, List.set_cons_zero, List.set_cons_succ])
          refine u_ready (rs := [5, 8]) (by decide +kernel) (by simp) ?_
          refine u_cons (o := ⟨some 67, _, _, _, _, _⟩) rfl (fun K hK => ?_) (u_cons (o := ⟨some 70, _, _, _, _, _⟩) rfl (fun K hK => ?_) u_nil)
          · as_aux_lemma =>
              refine step_append_els (by decide) dx_len dx_one _ rfl (.tmp 62) (.tmp 66) 24 rfl V.heap.size 33 i0 zeroD 48 Tryz.underlying24 hi0 hz0 hz1 hz2 rfl _ (0) _ rfl (lit_own (e := 33) (k := 3) V.heap.size U0 U0.heap.size rfl hu0z) _ _ _ _ (x.dx.take k) rfl HL1.out (HE1.out _ hb1) (by unfold maxLen; have n1 := HL1.out; have n2 := HL2.out; (try simp only [List.length_cons, List.length_nil]); omega) (by have n1 := HL1.out; have n2 := HL2.out; (try simp only [List.length_cons, List.length_nil]); omega) hb1.size ?_
              intro v2 w2 hown2 hg2 hat2
              have hS2 : Below V.heap.size V w2 := hb1.grown hg2 hb1.size (fun j hj => ((lit_own (e := 33) (k := 3) V.heap.size U0 U0.heap.size rfl hu0z).lt j hj).1)
              refine hK.out _ _ (fun _ => hS2) (fun _ => ?_)
              clear hK K
              (try simp only [Act.put, List.setIfInBounds_toArray, List.set_cons_zero, List.set_cons_succ])
              refine u_ready (rs := [8]) (by decide +kernel) (by simp) ?_
              refine u_cons (o := ⟨some 70, _, _, _, _, _⟩) rfl (fun K hK => ?_) u_nil
              go_simp
              have hb3 := hS2.alloc hS2.size (.cells #[.string v.dn, .int .i64 v.dl, .slice A n c] 33)
              refine hK.out _ _ (fun _ => hb3) (fun _ => ?_)
              clear hK K
              (try simp only [Act.put, List.setIfInBounds_toArray, List.set_cons_zero, List.set_cons_succ])
              refine u_ready (rs := [9]) (by decide +kernel) (by simp) ?_
              refine u_cons (o := ⟨some 71, _, _, _, _, _⟩) rfl (fun K hK => ?_) u_nil
              refine step_append_els (by decide) dx_len dx_one _ rfl (.tmp 67) (.tmp 70) 24 rfl V.heap.size 33 i0 zeroD 48 Tryz.underlying24 hi0 hz0 hz1 hz2 rfl _ (0 + (x.dx.take k).length) _ rfl (hown2.alloc (.cells #[.string v.dn, .int .i64 v.dl, .slice A n c] 33)) _ _ _ _ ([⟨v.dn, v.dl, v.ss, A, n, c⟩]) rfl rfl (HY1.out w2 _ rfl) (by unfold maxLen; have n1 := HL1.out; have n2 := HL2.out; (try simp only [List.length_cons, List.length_nil]); omega) (by have n1 := HL1.out; have n2 := HL2.out; (try simp only [List.length_cons, List.length_nil]); omega) hb3.size ?_
              intro v3 w3 hown3 hg3 hat3
              have hS3 : Below V.heap.size V w3 := hb3.grown hg3 hb3.size (fun j hj => ((hown2.alloc (.cells #[.string v.dn, .int .i64 v.dl, .slice A n c] 33)).lt j hj).1)
              refine hK.out _ _ (fun _ => hS3) (fun _ => ?_)
              clear hK K
              (try simp only [Act.put, List.setIfInBounds_toArray, List.set_cons_zero, List.set_cons_succ])
              refine u_ready (rs := [14]) (by decide +kernel) (by simp) ?_
              refine u_cons (o := ⟨some 76, _, _, _, _, _⟩) rfl (fun K hK => ?_) u_nil
              refine step_append_els (by decide) dx_len dx_one _ rfl (.tmp 71) (.tmp 75) 24 rfl V.heap.size 33 i0 zeroD 48 Tryz.underlying24 hi0 hz0 hz1 hz2 rfl _ (0 + (x.dx.take k).length + [⟨v.dn, v.dl, v.ss, A, n, c⟩].length) _ rfl hown3 _ _ _ _ (x.dx.drop k) rfl HL2.out (HE2.out _ hS3) (by unfold maxLen; have n1 := HL1.out; have n2 := HL2.out; (try simp only [List.length_cons, List.length_nil]); omega) (by have n1 := HL1.out; have n2 := HL2.out; (try simp only [List.length_cons, List.length_nil]); omega) hS3.size ?_
              intro v4 w4 hown4 hg4 hat4
              have hS4 : Below V.heap.size V w4 := hS3.grown hg4 hS3.size (fun j hj => (hown3.lt j hj).1)
              refine hK.out _ _ (fun _ => hS4) (fun _ => ?_)
              clear hK K
              (try simp only [Act.put, List.setIfInBounds_toArray, List.set_cons_zero, List.set_cons_succ])
              have hown5 : w4.ownsRow (w.heap.size + 5) 33 3 v4 (x.nD + 1) ((x.dx.take k ++ ⟨v.dn, v.dl, v.ss, A, n, c⟩ :: x.dx.drop k).flatMap DX.cells) := by
                have h1 := own_low hown4 (show w.heap.size + 5 ≤ V.heap.size from H5V.out.sz)
                have h2 : (x.dx.take k).length = k := HL1.out.symm
                have h3 : (x.dx.drop k).length = x.nD - k := HL2.out.symm
                rw [h2, h3, show ([⟨v.dn, v.dl, v.ss, A, n, c⟩] : List DX).length = 1 from rfl, show 0 + k + 1 + (x.nD - k) = x.nD + 1 by omega] at h1
                rw [show x.dx.take k ++ ⟨v.dn, v.dl, v.ss, A, n, c⟩ :: x.dx.drop k = x.dx.take k ++ [⟨v.dn, v.dl, v.ss, A, n, c⟩] ++ x.dx.drop k by simp, List.flatMap_append, List.flatMap_append]
                simpa using h1
              obtain ⟨A4, c4, rfl⟩ := own_form hown5
              have HO4 := Lib.hid hown5
              clear hown5
              have hlen : x.nD + 1 = (x.dx.take k ++ ⟨v.dn, v.dl, v.ss, A, n, c⟩ :: x.dx.drop k).length := by have := HL.out; simp only [List.length_append, List.length_cons, List.length_take, List.length_drop]; omega
              have H54 := Lib.hid (H5V.out.on hS4)
              have HE4 := Lib.hid (H54.out.des hlen HO4.out (fun d hd => by
                rcases List.mem_append.1 hd with hd | hd
                · exact HX.out.each d (List.mem_of_mem_take hd)
                · rcases List.mem_cons.1 hd with rfl | hd
                  · exact HDY.out
                  · exact HX.out.each d (List.mem_of_mem_drop hd)))
              have e40 : w4.cell? ⟨w.heap.size, 0, none⟩ = some (.slice x.AD x.nD x.cD) := H54.out.cells.1
              have f40 : w4.frozen? ⟨w.heap.size, 0, none⟩ = false := H54.out.x3.frozen 0
              clear hown4 hg4 hat4 hlen
              refine Un.utk 15 77 [16] rfl ?_ hS4
              refine u_ready (rs := [16]) (by decide +kernel) (by simp) ?_
              refine u_cons (o := ⟨none, _, _, _, _, _⟩) rfl (fun K hK => ?_) u_nil
              go_simp
              refine hK.out _ _ (fun hc => absurd hc (by decide +kernel)) (fun _ => ?_)
              clear hK K
              (try simp only [Act.put, List.setIfInBounds_toArray, List.set_cons_zero, List.set_cons_succ])
              refine u_done (by kernel_rfl) ?_ _
              clear e40 f40 z0 v9 v10 v11 cut1 cut2
              go_upto_region 15 with fail
              generalize w4.setCell ⟨w.heap.size, 0, none⟩ (.slice A4 (x.nD + 1) c4) = W5 at *
              obtain ⟨y4, hy4⟩ : ∃ y4, y4 = x.des A4 (x.nD + 1) c4 (x.dx.take k ++ ⟨v.dn, v.dl, v.ss, A, n, c⟩ :: x.dx.drop k) := ⟨_, rfl⟩
              rw [← hy4] at HE4
              have HYS : Hid (y4.st = ⟨(x.dx.take k ++ ⟨v.dn, v.dl, v.ss, A, n, c⟩ :: x.dx.drop k).map DX.m, x.gs, x.nx⟩) := Lib.hid (by rw [hy4]; rfl)
              clear hy4
              have HSS := Lib.hid (rs_start HE4.out)
              obtain ⟨z0, z1, z2, yc0, yc1, yc2, yc3, yc4, yc5⟩ := rs_cells w y4 cm0
              refine wp_region_held_drew (S := RS w y4 cm0) (by kernel_rfl) HSS.out (fun hHeld => ?_)
              refine Un.tk 0 78 rfl ?_
              refine Un.tk 1 79 rfl ?_
              have HS6 := Lib.hid (rs_far HSS.out (p := w.heap.size + 2) (by omega) (by omega) y4.arr)
              refine Sa.st1 2 27 _ _ rfl (w.heap.size + 2) 27 #[.slice none 0 0, .slice none 0 0, .int .i64 0] y4.arr rfl rfl HE4.out.drew.r6 (sizeT y4) rfl (oneT _) HS6.out (fun hHeld => ?_)
              have HS7 := Lib.hid (rs_far HS6.out (p := w.heap.size + 3) (by omega) (by omega) cm0.arr)
              refine Sa.st1 3 37 _ _ rfl (w.heap.size + 3) 37 cm0.arr cm0.arr rfl rfl (Sa.box_far HE4.out.drew.r7 (by omega) _) (Sa.sizeC _) rfl (Sa.oneC _) HS7.out (fun hHeld => ?_)
              refine Un.tk 4 8 rfl ?_
              refine wpAnyH_done (by kernel_rfl) ?_ _
              go_wp2
              have HE := five_end HE4.out.drew
              refine bodyPost_ret (res_st_cm_tmp rfl _ _ (w.heap.size + 2) (w.heap.size + 3) y4 cm0 rfl rfl HE.1 HE.2.1) rfl ?_
              refine ⟨y4, ?_, HE.2.2.1, ?_, HE.2.2.2⟩
              · rw [HPUT.out]; rfl
              · rw [HPUT.out]; exact HYS.out
          · as_aux_lemma =>
              go_simp
              have hb2' := hb1.alloc hb1.size (.cells #[.string v.dn, .int .i64 v.dl, .slice A n c] 33)
              have hy2 := HY1.out (U0.alloc (.cells #[] 33)) (U0.heap.size + 1) (by simp)
              refine hK.out _ _ (fun _ => hb2') (fun _ => ?_)
              clear hK K
              (try simp only [Act.put, List.setIfInBounds_toArray, List.set_cons_zero, List.set_cons_succ])
              refine u_ready (rs := [5]) (by decide +kernel) (by simp) ?_
              refine u_cons (o := ⟨some 67, _, _, _, _, _⟩) rfl (fun K hK => ?_) u_nil
              refine step_append_els (by decide) dx_len dx_one _ rfl (.tmp 62) (.tmp 66) 24 rfl V.heap.size 33 i0 zeroD 48 Tryz.underlying24 hi0 hz0 hz1 hz2 rfl _ (0) _ rfl ((lit_own (e := 33) (k := 3) V.heap.size U0 U0.heap.size rfl hu0z).alloc (.cells #[.string v.dn, .int .i64 v.dl, .slice A n c] 33)) _ _ _ _ (x.dx.take k) rfl HL1.out (HE1.out _ hb2') (by unfold maxLen; have n1 := HL1.out; have n2 := HL2.out; (try simp only [List.length_cons, List.length_nil]); omega) (by have n1 := HL1.out; have n2 := HL2.out; (try simp only [List.length_cons, List.length_nil]); omega) hb2'.size ?_
              intro v2 w2 hown2 hg2 hat2
              have hS2 : Below V.heap.size V w2 := hb2'.grown hg2 hb2'.size (fun j hj => (((lit_own (e := 33) (k := 3) V.heap.size U0 U0.heap.size rfl hu0z).alloc (.cells #[.string v.dn, .int .i64 v.dl, .slice A n c] 33)).lt j hj).1)
              have hy3 := one_grown (row := some U0.heap.size) hy2 hg2 (by simp) (by simp)
              refine hK.out _ _ (fun _ => hS2) (fun _ => ?_)
              clear hK K
              (try simp only [Act.put, List.setIfInBounds_toArray, List.set_cons_zero, List.set_cons_succ])
              refine u_ready (rs := [9]) (by decide +kernel) (by simp) ?_
              refine u_cons (o := ⟨some 71, _, _, _, _, _⟩) rfl (fun K hK => ?_) u_nil
              refine step_append_els (by decide) dx_len dx_one _ rfl (.tmp 67) (.tmp 70) 24 rfl V.heap.size 33 i0 zeroD 48 Tryz.underlying24 hi0 hz0 hz1 hz2 rfl _ (0 + (x.dx.take k).length) _ rfl hown2 _ _ _ _ ([⟨v.dn, v.dl, v.ss, A, n, c⟩]) rfl rfl hy3 (by unfold maxLen; have n1 := HL1.out; have n2 := HL2.out; (try simp only [List.length_cons, List.length_nil]); omega) (by have n1 := HL1.out; have n2 := HL2.out; (try simp only [List.length_cons, List.length_nil]); omega) hS2.size ?_
              intro v3 w3 hown3 hg3 hat3
              have hS3 : Below V.heap.size V w3 := hS2.grown hg3 hS2.size (fun j hj => (hown2.lt j hj).1)
              refine hK.out _ _ (fun _ => hS3) (fun _ => ?_)
              clear hK K
              (try simp only [Act.put, List.setIfInBounds_toArray, List.set_cons_zero, List.set_cons_succ])
              refine u_ready (rs := [14]) (by decide +kernel) (by simp) ?_
              refine u_cons (o := ⟨some 76, _, _, _, _, _⟩) rfl (fun K hK => ?_) u_nil
              refine step_append_els (by decide) dx_len dx_one _ rfl (.tmp 71) (.tmp 75) 24 rfl V.heap.size 33 i0 zeroD 48 Tryz.underlying24 hi0 hz0 hz1 hz2 rfl _ (0 + (x.dx.take k).length + [⟨v.dn, v.dl, v.ss, A, n, c⟩].length) _ rfl hown3 _ _ _ _ (x.dx.drop k) rfl HL2.out (HE2.out _ hS3) (by unfold maxLen; have n1 := HL1.out; have n2 := HL2.out; (try simp only [List.length_cons, List.length_nil]); omega) (by have n1 := HL1.out; have n2 := HL2.out; (try simp only [List.length_cons, List.length_nil]); omega) hS3.size ?_
              intro v4 w4 hown4 hg4 hat4
              have hS4 : Below V.heap.size V w4 := hS3.grown hg4 hS3.size (fun j hj => (hown3.lt j hj).1)
              refine hK.out _ _ (fun _ => hS4) (fun _ => ?_)
              clear hK K
              (try simp only [Act.put, List.setIfInBounds_toArray, List.set_cons_zero, List.set_cons_succ])
              have hown5 : w4.ownsRow (w.heap.size + 5) 33 3 v4 (x.nD + 1) ((x.dx.take k ++ ⟨v.dn, v.dl, v.ss, A, n, c⟩ :: x.dx.drop k).flatMap DX.cells) := by
                have h1 := own_low hown4 (show w.heap.size + 5 ≤ V.heap.size from H5V.out.sz)
                have h2 : (x.dx.take k).length = k := HL1.out.symm
                have h3 : (x.dx.drop k).length = x.nD - k := HL2.out.symm
                rw [h2, h3, show ([⟨v.dn, v.dl, v.ss, A, n, c⟩] : List DX).length = 1 from rfl, show 0 + k + 1 + (x.nD - k) = x.nD + 1 by omega] at h1
                rw [show x.dx.take k ++ ⟨v.dn, v.dl, v.ss, A, n, c⟩ :: x.dx.drop k = x.dx.take k ++ [⟨v.dn, v.dl, v.ss, A, n, c⟩] ++ x.dx.drop k by simp, List.flatMap_append, List.flatMap_append]
                simpa using h1
              obtain ⟨A4, c4, rfl⟩ := own_form hown5
              have HO4 := Lib.hid hown5
              clear hown5
              have hlen : x.nD + 1 = (x.dx.take k ++ ⟨v.dn, v.dl, v.ss, A, n, c⟩ :: x.dx.drop k).length := by have := HL.out; simp only [List.length_append, List.length_cons, List.length_take, List.length_drop]; omega
              have H54 := Lib.hid (H5V.out.on hS4)
              have HE4 := Lib.hid (H54.out.des hlen HO4.out (fun d hd => by
                rcases List.mem_append.1 hd with hd | hd
                · exact HX.out.each d (List.mem_of_mem_take hd)
                · rcases List.mem_cons.1 hd with rfl | hd
                  · exact HDY.out
                  · exact HX.out.each d (List.mem_of_mem_drop hd)))
              have e40 : w4.cell? ⟨w.heap.size, 0, none⟩ = some (.slice x.AD x.nD x.cD) := H54.out.cells.1
              have f40 : w4.frozen? ⟨w.heap.size, 0, none⟩ = false := H54.out.x3.frozen 0
              clear hown4 hg4 hat4 hlen
              refine Un.utk 15 77 [16] rfl ?_ hS4
              refine u_ready (rs := [16]) (by decide +kernel) (by simp) ?_
              refine u_cons (o := ⟨none, _, _, _, _, _⟩) rfl (fun K hK => ?_) u_nil
              go_simp
              refine hK.out _ _ (fun hc => absurd hc (by decide +kernel)) (fun _ => ?_)
              clear hK K
              (try simp only [Act.put, List.setIfInBounds_toArray, List.set_cons_zero, List.set_cons_succ])
              refine u_done (by kernel_rfl) ?_ _
              clear e40 f40 z0 v9 v10 v11 cut1 cut2
              go_upto_region 15 with fail
              generalize w4.setCell ⟨w.heap.size, 0, none⟩ (.slice A4 (x.nD + 1) c4) = W5 at *
              obtain ⟨y4, hy4⟩ : ∃ y4, y4 = x.des A4 (x.nD + 1) c4 (x.dx.take k ++ ⟨v.dn, v.dl, v.ss, A, n, c⟩ :: x.dx.drop k) := ⟨_, rfl⟩
              rw [← hy4] at HE4
              have HYS : Hid (y4.st = ⟨(x.dx.take k ++ ⟨v.dn, v.dl, v.ss, A, n, c⟩ :: x.dx.drop k).map DX.m, x.gs, x.nx⟩) := Lib.hid (by rw [hy4]; rfl)
              clear hy4
              have HSS := Lib.hid (rs_start HE4.out)
              obtain ⟨z0, z1, z2, yc0, yc1, yc2, yc3, yc4, yc5⟩ := rs_cells w y4 cm0
              refine wp_region_held_drew (S := RS w y4 cm0) (by kernel_rfl) HSS.out (fun hHeld => ?_)
              refine Un.tk 0 78 rfl ?_
              refine Un.tk 1 79 rfl ?_
              have HS6 := Lib.hid (rs_far HSS.out (p := w.heap.size + 2) (by omega) (by omega) y4.arr)
              refine Sa.st1 2 27 _ _ rfl (w.heap.size + 2) 27 #[.slice none 0 0, .slice none 0 0, .int .i64 0] y4.arr rfl rfl HE4.out.drew.r6 (sizeT y4) rfl (oneT _) HS6.out (fun hHeld => ?_)
              have HS7 := Lib.hid (rs_far HS6.out (p := w.heap.size + 3) (by omega) (by omega) cm0.arr)
              refine Sa.st1 3 37 _ _ rfl (w.heap.size + 3) 37 cm0.arr cm0.arr rfl rfl (Sa.box_far HE4.out.drew.r7 (by omega) _) (Sa.sizeC _) rfl (Sa.oneC _) HS7.out (fun hHeld => ?_)
              refine Un.tk 4 8 rfl ?_
              refine wpAnyH_done (by kernel_rfl) ?_ _
              go_wp2
              have HE := five_end HE4.out.drew
              refine bodyPost_ret (res_st_cm_tmp rfl _ _ (w.heap.size + 2) (w.heap.size + 3) y4 cm0 rfl rfl HE.1 HE.2.1) rfl ?_
              refine ⟨y4, ?_, HE.2.2.1, ?_, HE.2.2.2⟩
              · rw [HPUT.out]; rfl
              · rw [HPUT.out]; exact HYS.out
        · as_aux_lemma =>
            go_simp
            have hb1 := hu0.alloc hu0z (.cells #[.string v.dn, .int .i64 v.dl, .slice A n c] 33)
            have hy1 := HY1.out U0 _ rfl
            refine hK.out _ _ (fun _ => hb1) (fun _ => ?_)
            clear hK K
            (try simp only [Act.put, List.setIfInBounds_toArray, List.set_cons_zero, List.set_cons_succ])
            refine u_ready (rs := [0]) (by decide +kernel) (by simp) ?_
            refine u_cons (o := ⟨some 62, _, _, _, _, _⟩) rfl (fun K hK => ?_) u_nil
            go_simp
            have hb2' := hb1.alloc hb1.size (.cells #[] 33)
            have hy2 := Els.below hy1 ((Below.refl (U0.heap.size + 1) (U0.alloc (.cells #[.string v.dn, .int .i64 v.dl, .slice A n c] 33))).alloc (by simp) (.cells #[] 33))
            refine hK.out _ _ (fun _ => hb2') (fun _ => ?_)
            clear hK K
            (try simp only [Act.put, List.setIfInBounds_toArray, List.set_cons_zero, List.set_cons_succ])
            refine u_ready (rs := [5]) (by decide +kernel) (by simp) ?_
            refine u_cons (o := ⟨some 67, _, _, _, _, _⟩) rfl (fun K hK => ?_) u_nil
            refine step_append_els (by decide) dx_len dx_one _ rfl (.tmp 62) (.tmp 66) 24 rfl V.heap.size 33 i0 zeroD 48 Tryz.underlying24 hi0 hz0 hz1 hz2 rfl _ (0) _ rfl (lit_own (e := 33) (k := 3) V.heap.size (U0.alloc (.cells #[.string v.dn, .int .i64 v.dl, .slice A n c] 33)) (U0.heap.size + 1) (by simp) (by omega)) _ _ _ _ (x.dx.take k) rfl HL1.out (HE1.out _ hb2') (by unfold maxLen; have n1 := HL1.out; have n2 := HL2.out; (try simp only [List.length_cons, List.length_nil]); omega) (by have n1 := HL1.out; have n2 := HL2.out; (try simp only [List.length_cons, List.length_nil]); omega) hb2'.size ?_
            intro v2 w2 hown2 hg2 hat2
            have hS2 : Below V.heap.size V w2 := hb2'.grown hg2 hb2'.size (fun j hj => ((lit_own (e := 33) (k := 3) V.heap.size (U0.alloc (.cells #[.string v.dn, .int .i64 v.dl, .slice A n c] 33)) (U0.heap.size + 1) (by simp) (by omega)).lt j hj).1)
            have hy3 := one_grown (row := some (U0.heap.size + 1)) hy2 hg2 (by simp; omega) (by simp)
            refine hK.out _ _ (fun _ => hS2) (fun _ => ?_)
            clear hK K
            (try simp only [Act.put, List.setIfInBounds_toArray, List.set_cons_zero, List.set_cons_succ])
            refine u_ready (rs := [9]) (by decide +kernel) (by simp) ?_
            refine u_cons (o := ⟨some 71, _, _, _, _, _⟩) rfl (fun K hK => ?_) u_nil
            refine step_append_els (by decide) dx_len dx_one _ rfl (.tmp 67) (.tmp 70) 24 rfl V.heap.size 33 i0 zeroD 48 Tryz.underlying24 hi0 hz0 hz1 hz2 rfl _ (0 + (x.dx.take k).length) _ rfl hown2 _ _ _ _ ([⟨v.dn, v.dl, v.ss, A, n, c⟩]) rfl rfl hy3 (by unfold maxLen; have n1 := HL1.out; have n2 := HL2.out; (try simp only [List.length_cons, List.length_nil]); omega) (by have n1 := HL1.out; have n2 := HL2.out; (try simp only [List.length_cons, List.length_nil]); omega) hS2.size ?_
            intro v3 w3 hown3 hg3 hat3
            have hS3 : Below V.heap.size V w3 := hS2.grown hg3 hS2.size (fun j hj => (hown2.lt j hj).1)
            refine hK.out _ _ (fun _ => hS3) (fun _ => ?_)
            clear hK K
            (try simp only [Act.put, List.setIfInBounds_toArray, List.set_cons_zero, List.set_cons_succ])
            refine u_ready (rs := [14]) (by decide +kernel) (by simp) ?_
            refine u_cons (o := ⟨some 76, _, _, _, _, _⟩) rfl (fun K hK => ?_) u_nil
            refine step_append_els (by decide) dx_len dx_one _ rfl (.tmp 71) (.tmp 75) 24 rfl V.heap.size 33 i0 zeroD 48 Tryz.underlying24 hi0 hz0 hz1 hz2 rfl _ (0 + (x.dx.take k).length + [⟨v.dn, v.dl, v.ss, A, n, c⟩].length) _ rfl hown3 _ _ _ _ (x.dx.drop k) rfl HL2.out (HE2.out _ hS3) (by unfold maxLen; have n1 := HL1.out; have n2 := HL2.out; (try simp only [List.length_cons, List.length_nil]); omega) (by have n1 := HL1.out; have n2 := HL2.out; (try simp only [List.length_cons, List.length_nil]); omega) hS3.size ?_
            intro v4 w4 hown4 hg4 hat4
            have hS4 : Below V.heap.size V w4 := hS3.grown hg4 hS3.size (fun j hj => (hown3.lt j hj).1)
            refine hK.out _ _ (fun _ => hS4) (fun _ => ?_)
            clear hK K
            (try simp only [Act.put, List.setIfInBounds_toArray, List.set_cons_zero, List.set_cons_succ])
            have hown5 : w4.ownsRow (w.heap.size + 5) 33 3 v4 (x.nD + 1) ((x.dx.take k ++ ⟨v.dn, v.dl, v.ss, A, n, c⟩ :: x.dx.drop k).flatMap DX.cells) := by
              have h1 := own_low hown4 (show w.heap.size + 5 ≤ V.heap.size from H5V.out.sz)
              have h2 : (x.dx.take k).length = k := HL1.out.symm
              have h3 : (x.dx.drop k).length = x.nD - k := HL2.out.symm
              rw [h2, h3, show ([⟨v.dn, v.dl, v.ss, A, n, c⟩] : List DX).length = 1 from rfl, show 0 + k + 1 + (x.nD - k) = x.nD + 1 by omega] at h1
              rw [show x.dx.take k ++ ⟨v.dn, v.dl, v.ss, A, n, c⟩ :: x.dx.drop k = x.dx.take k ++ [⟨v.dn, v.dl, v.ss, A, n, c⟩] ++ x.dx.drop k by simp, List.flatMap_append, List.flatMap_append]
              simpa using h1
            obtain ⟨A4, c4, rfl⟩ := own_form hown5
            have HO4 := Lib.hid hown5
            clear hown5
            have hlen : x.nD + 1 = (x.dx.take k ++ ⟨v.dn, v.dl, v.ss, A, n, c⟩ :: x.dx.drop k).length := by have := HL.out; simp only [List.length_append, List.length_cons, List.length_take, List.length_drop]; omega
            have H54 := Lib.hid (H5V.out.on hS4)
            have HE4 := Lib.hid (H54.out.des hlen HO4.out (fun d hd => by
              rcases List.mem_append.1 hd with hd | hd
              · exact HX.out.each d (List.mem_of_mem_take hd)
              · rcases List.mem_cons.1 hd with rfl | hd
                · exact HDY.out
                · exact HX.out.each d (List.mem_of_mem_drop hd)))
            have e40 : w4.cell? ⟨w.heap.size, 0, none⟩ = some (.slice x.AD x.nD x.cD) := H54.out.cells.1
            have f40 : w4.frozen? ⟨w.heap.size, 0, none⟩ = false := H54.out.x3.frozen 0
            clear hown4 hg4 hat4 hlen
            refine Un.utk 15 77 [16] rfl ?_ hS4
            refine u_ready (rs := [16]) (by decide +kernel) (by simp) ?_
            refine u_cons (o := ⟨none, _, _, _, _, _⟩) rfl (fun K hK => ?_) u_nil
            go_simp
            refine hK.out _ _ (fun hc => absurd hc (by decide +kernel)) (fun _ => ?_)
            clear hK K
            (try simp only [Act.put, List.setIfInBounds_toArray, List.set_cons_zero, List.set_cons_succ])
            refine u_done (by kernel_rfl) ?_ _
            clear e40 f40 z0 v9 v10 v11 cut1 cut2
            go_upto_region 15 with fail
            generalize w4.setCell ⟨w.heap.size, 0, none⟩ (.slice A4 (x.nD + 1) c4) = W5 at *
            obtain ⟨y4, hy4⟩ : ∃ y4, y4 = x.des A4 (x.nD + 1) c4 (x.dx.take k ++ ⟨v.dn, v.dl, v.ss, A, n, c⟩ :: x.dx.drop k) := ⟨_, rfl⟩
            rw [← hy4] at HE4
            have HYS : Hid (y4.st = ⟨(x.dx.take k ++ ⟨v.dn, v.dl, v.ss, A, n, c⟩ :: x.dx.drop k).map DX.m, x.gs, x.nx⟩) := Lib.hid (by rw [hy4]; rfl)
            clear hy4
            have HSS := Lib.hid (rs_start HE4.out)
            obtain ⟨z0, z1, z2, yc0, yc1, yc2, yc3, yc4, yc5⟩ := rs_cells w y4 cm0
            refine wp_region_held_drew (S := RS w y4 cm0) (by kernel_rfl) HSS.out (fun hHeld => ?_)
            refine Un.tk 0 78 rfl ?_
            refine Un.tk 1 79 rfl ?_
            have HS6 := Lib.hid (rs_far HSS.out (p := w.heap.size + 2) (by omega) (by omega) y4.arr)
            refine Sa.st1 2 27 _ _ rfl (w.heap.size + 2) 27 #[.slice none 0 0, .slice none 0 0, .int .i64 0] y4.arr rfl rfl HE4.out.drew.r6 (sizeT y4) rfl (oneT _) HS6.out (fun hHeld => ?_)
            have HS7 := Lib.hid (rs_far HS6.out (p := w.heap.size + 3) (by omega) (by omega) cm0.arr)
            refine Sa.st1 3 37 _ _ rfl (w.heap.size + 3) 37 cm0.arr cm0.arr rfl rfl (Sa.box_far HE4.out.drew.r7 (by omega) _) (Sa.sizeC _) rfl (Sa.oneC _) HS7.out (fun hHeld => ?_)
            refine Un.tk 4 8 rfl ?_
            refine wpAnyH_done (by kernel_rfl) ?_ _
            go_wp2
            have HE := five_end HE4.out.drew
            refine bodyPost_ret (res_st_cm_tmp rfl _ _ (w.heap.size + 2) (w.heap.size + 3) y4 cm0 rfl rfl HE.1 HE.2.1) rfl ?_
            refine ⟨y4, ?_, HE.2.2.1, ?_, HE.2.2.2⟩
            · rw [HPUT.out]; rfl
            · rw [HPUT.out]; exact HYS.out
end
end Go.Proofs.YteejocnogpaifaaGreatDoor.Tt
