/-
  What the document's Do of states answers: a saga begins.
  Conditions: the state and the event lie in memory, the state is right, it has fewer than 1,048,576 sagas; texts are of a moderate size.
-/
import Derived.Test.YteejocnogpaifaaGreatDoorStaRDo
namespace Go.Proofs.YteejocnogpaifaaGreatDoor.Tt
open Go.RowKit
open Go.Proofs.YteejocnogpaifaaGreatDoor.El
open Go.Proofs.YteejocnogpaifaaGreatDoor.Df
open Go.Proofs.YteejocnogpaifaaGreatDoor.Un
open Go.Proofs.YteejocnogpaifaaGreatDoor.Bo (P Made ret_int ret_bool)
open Go.Proofs.YteejocnogpaifaaGreatDoor.Sa (Sg Cm Rp cm0)
open Go.Proofs.YteejocnogpaifaaGreatDoor.Co (Ev Mod evc EvIn goodE)
section
variable (x : SV) (v : Ev) (A : Option Addr) (n c : Nat) (lim : Int) (w : World) (hx : SIn w x) (hi : Inv x.st) (hb2 : x.nS < 1048576) (hv : EvIn w v A n c) (h0 : A = none → n = 0 ∧ c = 0) (ht : Df.Tab w)
include hx hi hb2 hv h0 ht
omit h0 in
set_option maxHeartbeats 4000000 in
set_option maxRecDepth 100000 in
theorem rdo_st_none (hg : goodE v = true) (hk : v.k = 1) (hf : findX x.dx v.nm = -1) : Calls Tryz.prog 8 #[.agg #[.slice x.AD x.nD x.cD, .slice x.AS x.nS x.cS, .int .i64 x.nx], .agg #[.int .i64 v.k, .int .i64 v.now, .int .i64 v.sg, .string v.nm, .int .i64 v.r.sg, .int .i64 v.r.sp, .bool v.r.un, .int .i64 v.r.tr, .bool v.r.good, .string v.dn, .int .i64 v.dl, .slice A n c], .int .i64 lim] w (RDoIs w x v lim) := by
  have hfew : x.nD ≤ 64 := by have h1 := hx.lD; have h2 := hi.ok.ds.few; have h3 : x.st.ds.length = x.dx.length := List.length_map _; omega
  obtain ⟨hF0, hZ0, hX6⟩ := four_new w x v A n c
  have H50 : Hid (Five w (((((w.alloc (.cells #[.slice x.AD x.nD x.cD, .slice x.AS x.nS x.cS, .int .i64 x.nx] 27)).alloc (.cells #[.int .i64 v.k, .int .i64 v.now, .int .i64 v.sg, .string v.nm, .int .i64 v.r.sg, .int .i64 v.r.sp, .bool v.r.un, .int .i64 v.r.tr, .bool v.r.good, .string v.dn, .int .i64 v.dl, .slice A n c] 35)).alloc (.cells #[.slice none 0 0, .slice none 0 0, .int .i64 0] 27)).alloc (.cells #[.int .i64 0, .int .i64 0, .bool false, .int .i64 0, .string ⟨#[]⟩, .string ⟨#[]⟩] 37)).alloc (.cells #[.int .i64 0, .int .i64 0, .bool false, .int .i64 0, .string ⟨#[]⟩, .string ⟨#[]⟩] 37)) x v A n c cm0) := Lib.hid (five_new hF0 hZ0 hX6 hx)
  have HGV := Lib.hid (fun W (hW : Below w.heap.size w W) => Co.rgoodE_any v A n c W (hv.on hW))
  have HGS := Lib.hid (fun W (hW : Below w.heap.size w W) => rgood16_any x W (hx.on hW) hi (tab_below ht hW) (by omega))
  have HF0 : Hid (doS x.st v lim = ((startS x.st v lim).1, cm0, (startS x.st v lim).2)) := Lib.hid (by unfold doS; rw [if_neg (by rw [hg]; simp), if_neg (by omega), if_pos hk])
  have HFD := Lib.hid (fun W (hW : Below w.heap.size w W) => rfindD_any x v.nm W (hx.on hW) (by have := hx.lD; have h2 := hi.ok.ds.few; have h3 : x.st.ds.length = x.dx.length := List.length_map _; omega))
  have e0 : (v.k == 0) = false := by simp; omega
  have e1 : (v.k == 1) = true := by simp; omega
  rw [hg] at HGV
  rw [hf] at HFD
  have HX := Lib.hid hx
  have HLS := Lib.hid hx.lS
  have HF : Hid (doS x.st v lim = (x.st, cm0, 7)) := Lib.hid (by rw [HF0.out, startS_none hf])
  clear hf HF0
  clear hk hg
  clear hF0 hZ0 hX6
  go_enter Tryz.func8, Tryz.ntmps8
  go_upto_region 2 with fail
  generalize (((((w.alloc (.cells #[.slice x.AD x.nD x.cD, .slice x.AS x.nS x.cS, .int .i64 x.nx] 27)).alloc (.cells #[.int .i64 v.k, .int .i64 v.now, .int .i64 v.sg, .string v.nm, .int .i64 v.r.sg, .int .i64 v.r.sp, .bool v.r.un, .int .i64 v.r.tr, .bool v.r.good, .string v.dn, .int .i64 v.dl, .slice A n c] 35)).alloc (.cells #[.slice none 0 0, .slice none 0 0, .int .i64 0] 27)).alloc (.cells #[.int .i64 0, .int .i64 0, .bool false, .int .i64 0, .string ⟨#[]⟩, .string ⟨#[]⟩] 37)).alloc (.cells #[.int .i64 0, .int .i64 0, .bool false, .int .i64 0, .string ⟨#[]⟩, .string ⟨#[]⟩] 37)) = W1 at *
  obtain ⟨k0, k1, k2, k3, k4, k5, k6, k7, k8, k9, k10, k11⟩ := evc H50.out.v4
  go_upto_region 18 with (first
    | (go_at_call 21; (with_reducible refine (HGV.out _ H50.out.bel).mono ?_); rintro e w2 ⟨rfl, hb2'⟩; have H52 := Lib.hid (H50.out.on hb2'); obtain ⟨b0, b1, b2⟩ := H52.out.cells; clear hb2')
    | (go_at_call 22; (with_reducible refine (HGS.out _ H52.out.bel).mono ?_); rintro e w3 ⟨rfl, hb3'⟩; have H53 := Lib.hid (H52.out.on hb3'); obtain ⟨c0, c1, c2⟩ := H53.out.cells; obtain ⟨j0, j1, j2, j3, j4, j5, j6, j7, j8, j9, j10, j11⟩ := evc H53.out.v4; clear hb3')
    | (go_at_call 11; (with_reducible refine (HFD.out _ H53.out.bel).mono ?_); rintro e w4 ⟨rfl, hm4⟩; have H54 := Lib.hid (H53.out.on hm4.below); obtain ⟨d0, d1, d2⟩ := H54.out.cells; clear hm4))
  clear HGV HGS HFD H50 H52 H53
  clear k0 k1 k2 k3 k4 k5 k6 k7 k8 k9 k10 k11 b0 b1 b2 c0 c1 c2 j0 j1 j2 j3 j4 j5 j6 j7 j8 j9 j10 j11 d0 d1 d2
  have HSS := Lib.hid (rs_start H54.out)
  obtain ⟨z0, z1, z2, yc0, yc1, yc2, yc3, yc4, yc5⟩ := rs_cells w x cm0
  refine wp_region_held_drew (S := RS w x cm0) (by kernel_rfl) HSS.out (fun hHeld => ?_)
  refine Un.tk 0 88 rfl ?_
  refine Un.tk 1 89 rfl ?_
  have HS6 := Lib.hid (rs_far HSS.out (p := w.heap.size + 2) (by omega) (by omega) x.arr)
  refine Sa.st1 2 27 _ _ rfl (w.heap.size + 2) 27 #[.slice none 0 0, .slice none 0 0, .int .i64 0] x.arr rfl rfl H54.out.drew.r6 (sizeT x) rfl (oneT _) HS6.out (fun hHeld => ?_)
  have HS7 := Lib.hid (rs_far HS6.out (p := w.heap.size + 3) (by omega) (by omega) cm0.arr)
  refine Sa.st1 3 37 _ _ rfl (w.heap.size + 3) 37 cm0.arr cm0.arr rfl rfl (Sa.box_far H54.out.drew.r7 (by omega) _) (Sa.sizeC _) rfl (Sa.oneC _) HS7.out (fun hHeld => ?_)
  refine Un.tk 4 8 rfl ?_
  refine wpAnyH_done (by kernel_rfl) ?_ _
  go_wp2
  have HE := five_end H54.out.drew
  refine bodyPost_ret (res_st_cm_tmp rfl _ _ (w.heap.size + 2) (w.heap.size + 3) x cm0 rfl rfl HE.1 HE.2.1) rfl ?_
  refine ⟨x, ?_, HE.2.2.1, ?_, HE.2.2.2⟩
  · rw [HF.out]; rfl
  · rw [HF.out]
omit h0 in
set_option maxHeartbeats 4000000 in
set_option maxRecDepth 100000 in
theorem rdo_st_arg (hg : goodE v = true) (hk : v.k = 1) {i : Nat} (hf : findX x.dx v.nm = (i : Int)) (hn : v.sg ≠ x.nx) : Calls Tryz.prog 8 #[.agg #[.slice x.AD x.nD x.cD, .slice x.AS x.nS x.cS, .int .i64 x.nx], .agg #[.int .i64 v.k, .int .i64 v.now, .int .i64 v.sg, .string v.nm, .int .i64 v.r.sg, .int .i64 v.r.sp, .bool v.r.un, .int .i64 v.r.tr, .bool v.r.good, .string v.dn, .int .i64 v.dl, .slice A n c], .int .i64 lim] w (RDoIs w x v lim) := by
  have hfew : x.nD ≤ 64 := by have h1 := hx.lD; have h2 := hi.ok.ds.few; have h3 : x.st.ds.length = x.dx.length := List.length_map _; omega
  obtain ⟨hF0, hZ0, hX6⟩ := four_new w x v A n c
  have H50 : Hid (Five w (((((w.alloc (.cells #[.slice x.AD x.nD x.cD, .slice x.AS x.nS x.cS, .int .i64 x.nx] 27)).alloc (.cells #[.int .i64 v.k, .int .i64 v.now, .int .i64 v.sg, .string v.nm, .int .i64 v.r.sg, .int .i64 v.r.sp, .bool v.r.un, .int .i64 v.r.tr, .bool v.r.good, .string v.dn, .int .i64 v.dl, .slice A n c] 35)).alloc (.cells #[.slice none 0 0, .slice none 0 0, .int .i64 0] 27)).alloc (.cells #[.int .i64 0, .int .i64 0, .bool false, .int .i64 0, .string ⟨#[]⟩, .string ⟨#[]⟩] 37)).alloc (.cells #[.int .i64 0, .int .i64 0, .bool false, .int .i64 0, .string ⟨#[]⟩, .string ⟨#[]⟩] 37)) x v A n c cm0) := Lib.hid (five_new hF0 hZ0 hX6 hx)
  have HGV := Lib.hid (fun W (hW : Below w.heap.size w W) => Co.rgoodE_any v A n c W (hv.on hW))
  have HGS := Lib.hid (fun W (hW : Below w.heap.size w W) => rgood16_any x W (hx.on hW) hi (tab_below ht hW) (by omega))
  have HF0 : Hid (doS x.st v lim = ((startS x.st v lim).1, cm0, (startS x.st v lim).2)) := Lib.hid (by unfold doS; rw [if_neg (by rw [hg]; simp), if_neg (by omega), if_pos hk])
  have HFD := Lib.hid (fun W (hW : Below w.heap.size w W) => rfindD_any x v.nm W (hx.on hW) (by have := hx.lD; have h2 := hi.ok.ds.few; have h3 : x.st.ds.length = x.dx.length := List.length_map _; omega))
  have e0 : (v.k == 0) = false := by simp; omega
  have e1 : (v.k == 1) = true := by simp; omega
  rw [hg] at HGV
  rw [hf] at HFD
  have HX := Lib.hid hx
  have HLS := Lib.hid hx.lS
  have HF : Hid (doS x.st v lim = (x.st, cm0, 1)) := Lib.hid (by rw [HF0.out, startS_arg hf hn])
  have e2 : (v.sg != x.nx) = true := by simpa using hn
  clear hf HF0 hn
  clear hk hg
  clear hF0 hZ0 hX6
  go_enter Tryz.func8, Tryz.ntmps8
  go_upto_region 2 with fail
  generalize (((((w.alloc (.cells #[.slice x.AD x.nD x.cD, .slice x.AS x.nS x.cS, .int .i64 x.nx] 27)).alloc (.cells #[.int .i64 v.k, .int .i64 v.now, .int .i64 v.sg, .string v.nm, .int .i64 v.r.sg, .int .i64 v.r.sp, .bool v.r.un, .int .i64 v.r.tr, .bool v.r.good, .string v.dn, .int .i64 v.dl, .slice A n c] 35)).alloc (.cells #[.slice none 0 0, .slice none 0 0, .int .i64 0] 27)).alloc (.cells #[.int .i64 0, .int .i64 0, .bool false, .int .i64 0, .string ⟨#[]⟩, .string ⟨#[]⟩] 37)).alloc (.cells #[.int .i64 0, .int .i64 0, .bool false, .int .i64 0, .string ⟨#[]⟩, .string ⟨#[]⟩] 37)) = W1 at *
  obtain ⟨k0, k1, k2, k3, k4, k5, k6, k7, k8, k9, k10, k11⟩ := evc H50.out.v4
  go_upto_region 20 with (first
    | (go_at_call 21; (with_reducible refine (HGV.out _ H50.out.bel).mono ?_); rintro e w2 ⟨rfl, hb2'⟩; have H52 := Lib.hid (H50.out.on hb2'); obtain ⟨b0, b1, b2⟩ := H52.out.cells; clear hb2')
    | (go_at_call 22; (with_reducible refine (HGS.out _ H52.out.bel).mono ?_); rintro e w3 ⟨rfl, hb3'⟩; have H53 := Lib.hid (H52.out.on hb3'); obtain ⟨c0, c1, c2⟩ := H53.out.cells; obtain ⟨j0, j1, j2, j3, j4, j5, j6, j7, j8, j9, j10, j11⟩ := evc H53.out.v4; clear hb3')
    | (go_at_call 11; (with_reducible refine (HFD.out _ H53.out.bel).mono ?_); rintro e w4 ⟨rfl, hm4⟩; have H54 := Lib.hid (H53.out.on hm4.below); obtain ⟨d0, d1, d2⟩ := H54.out.cells; clear hm4; obtain ⟨i0, i1, i2, i3, i4, i5, i6, i7, i8, i9, i10, i11⟩ := evc H54.out.v4))
  clear HGV HGS HFD H50 H52 H53
  clear k0 k1 k2 k3 k4 k5 k6 k7 k8 k9 k10 k11 b0 b1 b2 c0 c1 c2 j0 j1 j2 j3 j4 j5 j6 j7 j8 j9 j10 j11 d0 d1 d2
  clear i0 i1 i2 i3 i4 i5 i6 i7 i8 i9 i10 i11
  have HSS := Lib.hid (rs_start H54.out)
  obtain ⟨z0, z1, z2, yc0, yc1, yc2, yc3, yc4, yc5⟩ := rs_cells w x cm0
  refine wp_region_held_drew (S := RS w x cm0) (by kernel_rfl) HSS.out (fun hHeld => ?_)
  refine Un.tk 0 95 rfl ?_
  refine Un.tk 1 96 rfl ?_
  have HS6 := Lib.hid (rs_far HSS.out (p := w.heap.size + 2) (by omega) (by omega) x.arr)
  refine Sa.st1 2 27 _ _ rfl (w.heap.size + 2) 27 #[.slice none 0 0, .slice none 0 0, .int .i64 0] x.arr rfl rfl H54.out.drew.r6 (sizeT x) rfl (oneT _) HS6.out (fun hHeld => ?_)
  have HS7 := Lib.hid (rs_far HS6.out (p := w.heap.size + 3) (by omega) (by omega) cm0.arr)
  refine Sa.st1 3 37 _ _ rfl (w.heap.size + 3) 37 cm0.arr cm0.arr rfl rfl (Sa.box_far H54.out.drew.r7 (by omega) _) (Sa.sizeC _) rfl (Sa.oneC _) HS7.out (fun hHeld => ?_)
  refine Un.tk 4 8 rfl ?_
  refine wpAnyH_done (by kernel_rfl) ?_ _
  go_wp2
  have HE := five_end H54.out.drew
  refine bodyPost_ret (res_st_cm_tmp rfl _ _ (w.heap.size + 2) (w.heap.size + 3) x cm0 rfl rfl HE.1 HE.2.1) rfl ?_
  refine ⟨x, ?_, HE.2.2.1, ?_, HE.2.2.2⟩
  · rw [HF.out]; rfl
  · rw [HF.out]
omit h0 in
set_option maxHeartbeats 4000000 in
set_option maxRecDepth 100000 in
theorem rdo_st_full (hg : goodE v = true) (hk : v.k = 1) {i : Nat} (hf : findX x.dx v.nm = (i : Int)) (hn : v.sg = x.nx) (hl : lim ≤ (x.nS : Int)) : Calls Tryz.prog 8 #[.agg #[.slice x.AD x.nD x.cD, .slice x.AS x.nS x.cS, .int .i64 x.nx], .agg #[.int .i64 v.k, .int .i64 v.now, .int .i64 v.sg, .string v.nm, .int .i64 v.r.sg, .int .i64 v.r.sp, .bool v.r.un, .int .i64 v.r.tr, .bool v.r.good, .string v.dn, .int .i64 v.dl, .slice A n c], .int .i64 lim] w (RDoIs w x v lim) := by
  have hfew : x.nD ≤ 64 := by have h1 := hx.lD; have h2 := hi.ok.ds.few; have h3 : x.st.ds.length = x.dx.length := List.length_map _; omega
  obtain ⟨hF0, hZ0, hX6⟩ := four_new w x v A n c
  have H50 : Hid (Five w (((((w.alloc (.cells #[.slice x.AD x.nD x.cD, .slice x.AS x.nS x.cS, .int .i64 x.nx] 27)).alloc (.cells #[.int .i64 v.k, .int .i64 v.now, .int .i64 v.sg, .string v.nm, .int .i64 v.r.sg, .int .i64 v.r.sp, .bool v.r.un, .int .i64 v.r.tr, .bool v.r.good, .string v.dn, .int .i64 v.dl, .slice A n c] 35)).alloc (.cells #[.slice none 0 0, .slice none 0 0, .int .i64 0] 27)).alloc (.cells #[.int .i64 0, .int .i64 0, .bool false, .int .i64 0, .string ⟨#[]⟩, .string ⟨#[]⟩] 37)).alloc (.cells #[.int .i64 0, .int .i64 0, .bool false, .int .i64 0, .string ⟨#[]⟩, .string ⟨#[]⟩] 37)) x v A n c cm0) := Lib.hid (five_new hF0 hZ0 hX6 hx)
  have HGV := Lib.hid (fun W (hW : Below w.heap.size w W) => Co.rgoodE_any v A n c W (hv.on hW))
  have HGS := Lib.hid (fun W (hW : Below w.heap.size w W) => rgood16_any x W (hx.on hW) hi (tab_below ht hW) (by omega))
  have HF0 : Hid (doS x.st v lim = ((startS x.st v lim).1, cm0, (startS x.st v lim).2)) := Lib.hid (by unfold doS; rw [if_neg (by rw [hg]; simp), if_neg (by omega), if_pos hk])
  have HFD := Lib.hid (fun W (hW : Below w.heap.size w W) => rfindD_any x v.nm W (hx.on hW) (by have := hx.lD; have h2 := hi.ok.ds.few; have h3 : x.st.ds.length = x.dx.length := List.length_map _; omega))
  have e0 : (v.k == 0) = false := by simp; omega
  have e1 : (v.k == 1) = true := by simp; omega
  rw [hg] at HGV
  rw [hf] at HFD
  have HX := Lib.hid hx
  have HLS := Lib.hid hx.lS
  have HF : Hid (doS x.st v lim = (x.st, cm0, 8)) := Lib.hid (by rw [HF0.out, startS_full hf hn (.inl (by rw [← hx.lS]; exact hl))])
  have e2 : (v.sg != x.nx) = false := by simpa using hn
  clear hf HF0 hn
  clear hk hg
  clear hF0 hZ0 hX6
  go_enter Tryz.func8, Tryz.ntmps8
  go_upto_region 2 with fail
  generalize (((((w.alloc (.cells #[.slice x.AD x.nD x.cD, .slice x.AS x.nS x.cS, .int .i64 x.nx] 27)).alloc (.cells #[.int .i64 v.k, .int .i64 v.now, .int .i64 v.sg, .string v.nm, .int .i64 v.r.sg, .int .i64 v.r.sp, .bool v.r.un, .int .i64 v.r.tr, .bool v.r.good, .string v.dn, .int .i64 v.dl, .slice A n c] 35)).alloc (.cells #[.slice none 0 0, .slice none 0 0, .int .i64 0] 27)).alloc (.cells #[.int .i64 0, .int .i64 0, .bool false, .int .i64 0, .string ⟨#[]⟩, .string ⟨#[]⟩] 37)).alloc (.cells #[.int .i64 0, .int .i64 0, .bool false, .int .i64 0, .string ⟨#[]⟩, .string ⟨#[]⟩] 37)) = W1 at *
  obtain ⟨k0, k1, k2, k3, k4, k5, k6, k7, k8, k9, k10, k11⟩ := evc H50.out.v4
  go_upto_region 22 with (first
    | (go_at_call 21; (with_reducible refine (HGV.out _ H50.out.bel).mono ?_); rintro e w2 ⟨rfl, hb2'⟩; have H52 := Lib.hid (H50.out.on hb2'); obtain ⟨b0, b1, b2⟩ := H52.out.cells; clear hb2')
    | (go_at_call 22; (with_reducible refine (HGS.out _ H52.out.bel).mono ?_); rintro e w3 ⟨rfl, hb3'⟩; have H53 := Lib.hid (H52.out.on hb3'); obtain ⟨c0, c1, c2⟩ := H53.out.cells; obtain ⟨j0, j1, j2, j3, j4, j5, j6, j7, j8, j9, j10, j11⟩ := evc H53.out.v4; clear hb3')
    | (go_at_call 11; (with_reducible refine (HFD.out _ H53.out.bel).mono ?_); rintro e w4 ⟨rfl, hm4⟩; have H54 := Lib.hid (H53.out.on hm4.below); obtain ⟨d0, d1, d2⟩ := H54.out.cells; clear hm4; obtain ⟨i0, i1, i2, i3, i4, i5, i6, i7, i8, i9, i10, i11⟩ := evc H54.out.v4))
  clear HGV HGS HFD H50 H52 H53
  clear k0 k1 k2 k3 k4 k5 k6 k7 k8 k9 k10 k11 b0 b1 b2 c0 c1 c2 j0 j1 j2 j3 j4 j5 j6 j7 j8 j9 j10 j11 d0 d1 d2
  clear i0 i1 i2 i3 i4 i5 i6 i7 i8 i9 i10 i11
  have HSS := Lib.hid (rs_start H54.out)
  obtain ⟨z0, z1, z2, yc0, yc1, yc2, yc3, yc4, yc5⟩ := rs_cells w x cm0
  refine wp_region_held_drew (S := RS w x cm0) (by kernel_rfl) HSS.out (fun hHeld => ?_)
  refine Un.tk 0 113 rfl ?_
  refine Un.tk 1 114 rfl ?_
  have HS6 := Lib.hid (rs_far HSS.out (p := w.heap.size + 2) (by omega) (by omega) x.arr)
  refine Sa.st1 2 27 _ _ rfl (w.heap.size + 2) 27 #[.slice none 0 0, .slice none 0 0, .int .i64 0] x.arr rfl rfl H54.out.drew.r6 (sizeT x) rfl (oneT _) HS6.out (fun hHeld => ?_)
  have HS7 := Lib.hid (rs_far HS6.out (p := w.heap.size + 3) (by omega) (by omega) cm0.arr)
  refine Sa.st1 3 37 _ _ rfl (w.heap.size + 3) 37 cm0.arr cm0.arr rfl rfl (Sa.box_far H54.out.drew.r7 (by omega) _) (Sa.sizeC _) rfl (Sa.oneC _) HS7.out (fun hHeld => ?_)
  refine Un.tk 4 8 rfl ?_
  refine wpAnyH_done (by kernel_rfl) ?_ _
  go_wp2
  have HE := five_end H54.out.drew
  refine bodyPost_ret (res_st_cm_tmp rfl _ _ (w.heap.size + 2) (w.heap.size + 3) x cm0 rfl rfl HE.1 HE.2.1) rfl ?_
  refine ⟨x, ?_, HE.2.2.1, ?_, HE.2.2.2⟩
  · rw [HF.out]; rfl
  · rw [HF.out]
omit h0 in
set_option maxHeartbeats 4000000 in
set_option maxRecDepth 100000 in
theorem rdo_st_end (hg : goodE v = true) (hk : v.k = 1) {i : Nat} (hf : findX x.dx v.nm = (i : Int)) (hn : v.sg = x.nx) (hl : ¬ lim ≤ (x.nS : Int)) (hm : 1125899906842624 ≤ x.nx) : Calls Tryz.prog 8 #[.agg #[.slice x.AD x.nD x.cD, .slice x.AS x.nS x.cS, .int .i64 x.nx], .agg #[.int .i64 v.k, .int .i64 v.now, .int .i64 v.sg, .string v.nm, .int .i64 v.r.sg, .int .i64 v.r.sp, .bool v.r.un, .int .i64 v.r.tr, .bool v.r.good, .string v.dn, .int .i64 v.dl, .slice A n c], .int .i64 lim] w (RDoIs w x v lim) := by
  have hfew : x.nD ≤ 64 := by have h1 := hx.lD; have h2 := hi.ok.ds.few; have h3 : x.st.ds.length = x.dx.length := List.length_map _; omega
  obtain ⟨hF0, hZ0, hX6⟩ := four_new w x v A n c
  have H50 : Hid (Five w (((((w.alloc (.cells #[.slice x.AD x.nD x.cD, .slice x.AS x.nS x.cS, .int .i64 x.nx] 27)).alloc (.cells #[.int .i64 v.k, .int .i64 v.now, .int .i64 v.sg, .string v.nm, .int .i64 v.r.sg, .int .i64 v.r.sp, .bool v.r.un, .int .i64 v.r.tr, .bool v.r.good, .string v.dn, .int .i64 v.dl, .slice A n c] 35)).alloc (.cells #[.slice none 0 0, .slice none 0 0, .int .i64 0] 27)).alloc (.cells #[.int .i64 0, .int .i64 0, .bool false, .int .i64 0, .string ⟨#[]⟩, .string ⟨#[]⟩] 37)).alloc (.cells #[.int .i64 0, .int .i64 0, .bool false, .int .i64 0, .string ⟨#[]⟩, .string ⟨#[]⟩] 37)) x v A n c cm0) := Lib.hid (five_new hF0 hZ0 hX6 hx)
  have HGV := Lib.hid (fun W (hW : Below w.heap.size w W) => Co.rgoodE_any v A n c W (hv.on hW))
  have HGS := Lib.hid (fun W (hW : Below w.heap.size w W) => rgood16_any x W (hx.on hW) hi (tab_below ht hW) (by omega))
  have HF0 : Hid (doS x.st v lim = ((startS x.st v lim).1, cm0, (startS x.st v lim).2)) := Lib.hid (by unfold doS; rw [if_neg (by rw [hg]; simp), if_neg (by omega), if_pos hk])
  have HFD := Lib.hid (fun W (hW : Below w.heap.size w W) => rfindD_any x v.nm W (hx.on hW) (by have := hx.lD; have h2 := hi.ok.ds.few; have h3 : x.st.ds.length = x.dx.length := List.length_map _; omega))
  have e0 : (v.k == 0) = false := by simp; omega
  have e1 : (v.k == 1) = true := by simp; omega
  rw [hg] at HGV
  rw [hf] at HFD
  have HX := Lib.hid hx
  have HLS := Lib.hid hx.lS
  have HF : Hid (doS x.st v lim = (x.st, cm0, 8)) := Lib.hid (by rw [HF0.out, startS_full hf hn (.inr hm)])
  have e2 : (v.sg != x.nx) = false := by simpa using hn
  have e4 : decide ((1048576 : Int) ≤ (x.nS : Int)) = false := decide_eq_false (by omega)
  have e6 : decide ((1125899906842624 : Int) ≤ x.nx) = true := decide_eq_true hm
  have e7 : decide (lim ≤ (x.nS : Int)) = false := decide_eq_false hl
  have HB2 := Lib.hid hb2
  clear hb2 hl hm
  clear hf HF0 hn
  clear hk hg
  clear hF0 hZ0 hX6
  go_enter Tryz.func8, Tryz.ntmps8
  go_upto_region 2 with fail
  generalize (((((w.alloc (.cells #[.slice x.AD x.nD x.cD, .slice x.AS x.nS x.cS, .int .i64 x.nx] 27)).alloc (.cells #[.int .i64 v.k, .int .i64 v.now, .int .i64 v.sg, .string v.nm, .int .i64 v.r.sg, .int .i64 v.r.sp, .bool v.r.un, .int .i64 v.r.tr, .bool v.r.good, .string v.dn, .int .i64 v.dl, .slice A n c] 35)).alloc (.cells #[.slice none 0 0, .slice none 0 0, .int .i64 0] 27)).alloc (.cells #[.int .i64 0, .int .i64 0, .bool false, .int .i64 0, .string ⟨#[]⟩, .string ⟨#[]⟩] 37)).alloc (.cells #[.int .i64 0, .int .i64 0, .bool false, .int .i64 0, .string ⟨#[]⟩, .string ⟨#[]⟩] 37)) = W1 at *
  obtain ⟨k0, k1, k2, k3, k4, k5, k6, k7, k8, k9, k10, k11⟩ := evc H50.out.v4
  go_upto_region 22 with (first
    | (go_at_call 21; (with_reducible refine (HGV.out _ H50.out.bel).mono ?_); rintro e w2 ⟨rfl, hb2'⟩; have H52 := Lib.hid (H50.out.on hb2'); obtain ⟨b0, b1, b2⟩ := H52.out.cells; clear hb2')
    | (go_at_call 22; (with_reducible refine (HGS.out _ H52.out.bel).mono ?_); rintro e w3 ⟨rfl, hb3'⟩; have H53 := Lib.hid (H52.out.on hb3'); obtain ⟨c0, c1, c2⟩ := H53.out.cells; obtain ⟨j0, j1, j2, j3, j4, j5, j6, j7, j8, j9, j10, j11⟩ := evc H53.out.v4; clear hb3')
    | (go_at_call 11; (with_reducible refine (HFD.out _ H53.out.bel).mono ?_); rintro e w4 ⟨rfl, hm4⟩; have H54 := Lib.hid (H53.out.on hm4.below); obtain ⟨d0, d1, d2⟩ := H54.out.cells; clear hm4; obtain ⟨i0, i1, i2, i3, i4, i5, i6, i7, i8, i9, i10, i11⟩ := evc H54.out.v4))
  clear HGV HGS HFD H50 H52 H53
  clear k0 k1 k2 k3 k4 k5 k6 k7 k8 k9 k10 k11 b0 b1 b2 c0 c1 c2 j0 j1 j2 j3 j4 j5 j6 j7 j8 j9 j10 j11 d0 d1 d2
  clear i0 i1 i2 i3 i4 i5 i6 i7 i8 i9 i10 i11
  have HSS := Lib.hid (rs_start H54.out)
  obtain ⟨z0, z1, z2, yc0, yc1, yc2, yc3, yc4, yc5⟩ := rs_cells w x cm0
  refine wp_region_held_drew (S := RS w x cm0) (by kernel_rfl) HSS.out (fun hHeld => ?_)
  refine Un.tk 0 113 rfl ?_
  refine Un.tk 1 114 rfl ?_
  have HS6 := Lib.hid (rs_far HSS.out (p := w.heap.size + 2) (by omega) (by omega) x.arr)
  refine Sa.st1 2 27 _ _ rfl (w.heap.size + 2) 27 #[.slice none 0 0, .slice none 0 0, .int .i64 0] x.arr rfl rfl H54.out.drew.r6 (sizeT x) rfl (oneT _) HS6.out (fun hHeld => ?_)
  have HS7 := Lib.hid (rs_far HS6.out (p := w.heap.size + 3) (by omega) (by omega) cm0.arr)
  refine Sa.st1 3 37 _ _ rfl (w.heap.size + 3) 37 cm0.arr cm0.arr rfl rfl (Sa.box_far H54.out.drew.r7 (by omega) _) (Sa.sizeC _) rfl (Sa.oneC _) HS7.out (fun hHeld => ?_)
  refine Un.tk 4 8 rfl ?_
  refine wpAnyH_done (by kernel_rfl) ?_ _
  go_wp2
  have HE := five_end H54.out.drew
  refine bodyPost_ret (res_st_cm_tmp rfl _ _ (w.heap.size + 2) (w.heap.size + 3) x cm0 rfl rfl HE.1 HE.2.1) rfl ?_
  refine ⟨x, ?_, HE.2.2.1, ?_, HE.2.2.2⟩
  · rw [HF.out]; rfl
  · rw [HF.out]
omit h0 in
set_option maxHeartbeats 4000000 in
set_option maxRecDepth 100000 in
theorem rdo_st_yes (hg : goodE v = true) (hk : v.k = 1) {i : Nat} (hf : findX x.dx v.nm = (i : Int)) (hn : v.sg = x.nx) (hl : ¬ lim ≤ (x.nS : Int)) (hm : ¬ 1125899906842624 ≤ x.nx) : Calls Tryz.prog 8 #[.agg #[.slice x.AD x.nD x.cD, .slice x.AS x.nS x.cS, .int .i64 x.nx], .agg #[.int .i64 v.k, .int .i64 v.now, .int .i64 v.sg, .string v.nm, .int .i64 v.r.sg, .int .i64 v.r.sp, .bool v.r.un, .int .i64 v.r.tr, .bool v.r.good, .string v.dn, .int .i64 v.dl, .slice A n c], .int .i64 lim] w (RDoIs w x v lim) := by
  have hfew : x.nD ≤ 64 := by have h1 := hx.lD; have h2 := hi.ok.ds.few; have h3 : x.st.ds.length = x.dx.length := List.length_map _; omega
  obtain ⟨hF0, hZ0, hX6⟩ := four_new w x v A n c
  have H50 : Hid (Five w (((((w.alloc (.cells #[.slice x.AD x.nD x.cD, .slice x.AS x.nS x.cS, .int .i64 x.nx] 27)).alloc (.cells #[.int .i64 v.k, .int .i64 v.now, .int .i64 v.sg, .string v.nm, .int .i64 v.r.sg, .int .i64 v.r.sp, .bool v.r.un, .int .i64 v.r.tr, .bool v.r.good, .string v.dn, .int .i64 v.dl, .slice A n c] 35)).alloc (.cells #[.slice none 0 0, .slice none 0 0, .int .i64 0] 27)).alloc (.cells #[.int .i64 0, .int .i64 0, .bool false, .int .i64 0, .string ⟨#[]⟩, .string ⟨#[]⟩] 37)).alloc (.cells #[.int .i64 0, .int .i64 0, .bool false, .int .i64 0, .string ⟨#[]⟩, .string ⟨#[]⟩] 37)) x v A n c cm0) := Lib.hid (five_new hF0 hZ0 hX6 hx)
  have HGV := Lib.hid (fun W (hW : Below w.heap.size w W) => Co.rgoodE_any v A n c W (hv.on hW))
  have HGS := Lib.hid (fun W (hW : Below w.heap.size w W) => rgood16_any x W (hx.on hW) hi (tab_below ht hW) (by omega))
  have HF0 : Hid (doS x.st v lim = ((startS x.st v lim).1, cm0, (startS x.st v lim).2)) := Lib.hid (by unfold doS; rw [if_neg (by rw [hg]; simp), if_neg (by omega), if_pos hk])
  have HFD := Lib.hid (fun W (hW : Below w.heap.size w W) => rfindD_any x v.nm W (hx.on hW) (by have := hx.lD; have h2 := hi.ok.ds.few; have h3 : x.st.ds.length = x.dx.length := List.length_map _; omega))
  have e0 : (v.k == 0) = false := by simp; omega
  have e1 : (v.k == 1) = true := by simp; omega
  rw [hg] at HGV
  rw [hf] at HFD
  have HX := Lib.hid hx
  have HLS := Lib.hid hx.lS
  have HF : Hid (doS x.st v lim = (⟨x.dx.map DX.m, x.gs ++ [(⟨v.sg, v.nm, v.now, 0, 0, 0, false, v.now, 0⟩ : Sg)], x.nx + 1⟩, cm0, 0)) := Lib.hid (by
    have hgp := (good_ev_parts hg).2.1
    rw [HF0.out, startS_yes hf hn (fun e => e.elim (fun e => hl (by rw [hx.lS]; exact e)) hm)]
    have hb : Sa.beginS v.nm v.sg v.now = (⟨v.sg, v.nm, v.now, 0, 0, 0, false, v.now, 0⟩ : Sg) := by
      unfold Sa.beginS
      rw [ofT_id hgp.1 hgp.2]
    rw [hb])
  have e2 : (v.sg != x.nx) = false := by simpa using hn
  have e4 : decide ((1048576 : Int) ≤ (x.nS : Int)) = false := decide_eq_false (by omega)
  have e6 : decide ((1125899906842624 : Int) ≤ x.nx) = false := decide_eq_false hm
  have e7 : decide (lim ≤ (x.nS : Int)) = false := decide_eq_false hl
  have HNX := Lib.hid hm
  have HB2 := Lib.hid hb2
  have e5 : 0 ≤ x.nx := hi.ok.nx
  clear hf HF0 hn hb2 hm hl
  clear hk hg
  clear hF0 hZ0 hX6
  go_enter Tryz.func8, Tryz.ntmps8
  go_upto_region 2 with fail
  generalize (((((w.alloc (.cells #[.slice x.AD x.nD x.cD, .slice x.AS x.nS x.cS, .int .i64 x.nx] 27)).alloc (.cells #[.int .i64 v.k, .int .i64 v.now, .int .i64 v.sg, .string v.nm, .int .i64 v.r.sg, .int .i64 v.r.sp, .bool v.r.un, .int .i64 v.r.tr, .bool v.r.good, .string v.dn, .int .i64 v.dl, .slice A n c] 35)).alloc (.cells #[.slice none 0 0, .slice none 0 0, .int .i64 0] 27)).alloc (.cells #[.int .i64 0, .int .i64 0, .bool false, .int .i64 0, .string ⟨#[]⟩, .string ⟨#[]⟩] 37)).alloc (.cells #[.int .i64 0, .int .i64 0, .bool false, .int .i64 0, .string ⟨#[]⟩, .string ⟨#[]⟩] 37)) = W1 at *
  obtain ⟨k0, k1, k2, k3, k4, k5, k6, k7, k8, k9, k10, k11⟩ := evc H50.out.v4
  go_upto_region 23 with (first
    | (go_at_call 21; (with_reducible refine (HGV.out _ H50.out.bel).mono ?_); rintro e w2 ⟨rfl, hb2'⟩; have H52 := Lib.hid (H50.out.on hb2'); obtain ⟨b0, b1, b2⟩ := H52.out.cells; clear hb2')
    | (go_at_call 22; (with_reducible refine (HGS.out _ H52.out.bel).mono ?_); rintro e w3 ⟨rfl, hb3'⟩; have H53 := Lib.hid (H52.out.on hb3'); obtain ⟨c0, c1, c2⟩ := H53.out.cells; obtain ⟨j0, j1, j2, j3, j4, j5, j6, j7, j8, j9, j10, j11⟩ := evc H53.out.v4; clear hb3')
    | (go_at_call 11; (with_reducible refine (HFD.out _ H53.out.bel).mono ?_); rintro e w4 ⟨rfl, hm4⟩; have H54 := Lib.hid (H53.out.on hm4.below); obtain ⟨d0, d1, d2⟩ := H54.out.cells; clear hm4; obtain ⟨i0, i1, i2, i3, i4, i5, i6, i7, i8, i9, i10, i11⟩ := evc H54.out.v4))
  clear HGV HGS HFD H50 H52 H53
  clear k0 k1 k2 k3 k4 k5 k6 k7 k8 k9 k10 k11 b0 b1 b2 c0 c1 c2 j0 j1 j2 j3 j4 j5 j6 j7 j8 j9 j10 j11 d0 d1 d2
  clear i0 i1 i2 i3 i4 i5 i6 i7 i8 i9 i10 i11
  have HE50 := Lib.hid e5
  clear e0 e1 e2 e4 e5 e6 e7
  have H5V := H54
  have HDS := H54
  clear H54
  generalize w4 = V at *
  have hh5 := H5V.out.sz
  have z1 : ∀ u, Below V.heap.size V u → u.cell? ⟨w.heap.size, 1, none⟩ = some (.slice x.AS x.nS x.cS) := fun u H => (H.cell (p := ⟨w.heap.size, 1, none⟩) (show w.heap.size < V.heap.size by omega)).trans (HDS.out.x3.cell 1)
  have vc1 : ∀ u, Below V.heap.size V u → u.cell? ⟨w.heap.size + 1, 1, none⟩ = some (.int .i64 v.now) := fun u H => (H.cell (p := ⟨w.heap.size + 1, 1, none⟩) (show w.heap.size + 1 < V.heap.size by omega)).trans (HDS.out.v4.cell 1)
  have vc2 : ∀ u, Below V.heap.size V u → u.cell? ⟨w.heap.size + 1, 2, none⟩ = some (.int .i64 v.sg) := fun u H => (H.cell (p := ⟨w.heap.size + 1, 2, none⟩) (show w.heap.size + 1 < V.heap.size by omega)).trans (HDS.out.v4.cell 2)
  have vc3 : ∀ u, Below V.heap.size V u → u.cell? ⟨w.heap.size + 1, 3, none⟩ = some (.string v.nm) := fun u H => (H.cell (p := ⟨w.heap.size + 1, 3, none⟩) (show w.heap.size + 1 < V.heap.size by omega)).trans (HDS.out.v4.cell 3)
  have HE1 : Hid (∀ u, Below V.heap.size V u → Els sgc 9 u V.heap.size x.AS x.gs) := Lib.hid (fun u H => HDS.out.here.hS.below H)
  have HY1 : Hid (∀ (u : World) (q : Nat), q = u.heap.size → Els sgc 9 (u.alloc (.cells (⟨v.sg, v.nm, v.now, 0, 0, 0, false, v.now, 0⟩ : Sg).arr 49)) (q + 1) (some ⟨q, 0, none⟩) [(⟨v.sg, v.nm, v.now, 0, 0, 0, false, v.now, 0⟩ : Sg)]) := Lib.hid (fun u q hq => one_sg u q hq (⟨v.sg, v.nm, v.now, 0, 0, 0, false, v.now, 0⟩ : Sg))
  obtain ⟨i0, hi0, hz0, hz1, hz2⟩ := info_of infoS
  clear hh5
  refine u_start (S := fun u => Below V.heap.size V u) 16 (by kernel_rfl) (Below.drew (Below.refl _ V)) (fun hHeld => ?_)
  refine Un.utk 1 116 [2, 3, 14, 16] rfl ?_
  refine Un.utk 2 117 [3, 14, 16] rfl ?_
  refine Un.utk 4 119 [5, 12, 13, 14, 16] rfl ?_
  refine Un.utk 5 120 [12, 13, 14, 16] rfl ?_
  refine Un.utk 6 121 [7, 12, 13, 14, 16] rfl ?_
  refine Un.utk 7 122 [12, 13, 14, 16] rfl ?_
  refine Un.utk 8 123 [9, 12, 13, 14, 16] rfl ?_
  refine Un.utk 9 124 [12, 13, 14, 16] rfl ?_
  refine Un.utk 10 125 [11, 12, 13, 14, 16] rfl ?_
  refine Un.utk 11 126 [12, 13, 14, 16] rfl ?_
  refine Un.utk 12 127 [13, 14, 16] rfl ?_
  have HU0 : Hid (Below V.heap.size V V.drew ∧ V.drew.heap.size = V.heap.size) := Lib.hid ⟨hHeld, rfl⟩
  clear hHeld
  generalize V.drew = U0 at *
  have hu0 := HU0.out.1
  have hu0z := HU0.out.1.size
  refine u_ready (rs := [0, 13]) (by decide +kernel) (by simp) ?_
  refine u_cons (o := ⟨some 115, _, _, _, _, _⟩) rfl (fun K hK => ?_) (u_cons (o := ⟨some 128, _, _, _, _, _⟩) rfl (fun K hK => ?_) u_nil)
  · go_simp
    have hb1 := hu0.alloc hu0z (.cells #[] 49)
    refine hK.out _ _ (fun _ => hb1) (fun _ => ?_)
    clear hK K
    (try simp only [Act.put, List.setIfInBounds_toArray, List.set_cons_zero, List.set_cons_succ])
    refine u_ready (rs := [3, 13]) (by decide +kernel) (by simp) ?_
    refine u_cons (o := ⟨some 118, _, _, _, _, _⟩) rfl (fun K hK => ?_) (u_cons (o := ⟨some 128, _, _, _, _, _⟩) rfl (fun K hK => ?_) u_nil)
    · as_aux_lemma =>
        refine step_append_els (by decide) sg_len sg_one _ rfl (.tmp 115) (.tmp 117) 25 rfl V.heap.size 49 i0 zeroS 80 Tryz.underlying25 hi0 hz0 hz1 hz2 rfl _ (0) _ rfl (lit_own (e := 49) (k := 9) V.heap.size U0 U0.heap.size rfl hu0z) _ _ _ _ (x.gs) rfl HLS.out (HE1.out _ hb1) (by unfold maxLen; have n1 := HLS.out; have n2 := HB2.out; (try simp only [List.length_cons, List.length_nil]); omega) (by have n1 := HLS.out; have n2 := HB2.out; (try simp only [List.length_cons, List.length_nil]); omega) hb1.size ?_
        intro v2 w2 hown2 hg2 hat2
        have hS2 : Below V.heap.size V w2 := hb1.grown hg2 hb1.size (fun j hj => ((lit_own (e := 49) (k := 9) V.heap.size U0 U0.heap.size rfl hu0z).lt j hj).1)
        refine hK.out _ _ (fun _ => hS2) (fun _ => ?_)
        clear hK K
        (try simp only [Act.put, List.setIfInBounds_toArray, List.set_cons_zero, List.set_cons_succ])
        refine u_ready (rs := [13]) (by decide +kernel) (by simp) ?_
        refine u_cons (o := ⟨some 128, _, _, _, _, _⟩) rfl (fun K hK => ?_) u_nil
        refine step_build_saga _ (⟨v.sg, v.nm, v.now, 0, 0, 0, false, v.now, 0⟩ : Sg) w2.heap.size rfl rfl (.tmp 127) rfl rfl ?_
        have hb3 := hS2.alloc hS2.size (.cells (⟨v.sg, v.nm, v.now, 0, 0, 0, false, v.now, 0⟩ : Sg).arr 49)
        refine hK.out _ _ (fun _ => hb3) (fun _ => ?_)
        clear hK K
        (try simp only [Act.put, List.setIfInBounds_toArray, List.set_cons_zero, List.set_cons_succ])
        refine u_ready (rs := [14]) (by decide +kernel) (by simp) ?_
        refine u_cons (o := ⟨some 129, _, _, _, _, _⟩) rfl (fun K hK => ?_) u_nil
        refine step_append_els (by decide) sg_len sg_one _ rfl (.tmp 118) (.tmp 128) 25 rfl V.heap.size 49 i0 zeroS 80 Tryz.underlying25 hi0 hz0 hz1 hz2 rfl _ (0 + x.gs.length) _ rfl (hown2.alloc (.cells (⟨v.sg, v.nm, v.now, 0, 0, 0, false, v.now, 0⟩ : Sg).arr 49)) _ _ _ _ ([(⟨v.sg, v.nm, v.now, 0, 0, 0, false, v.now, 0⟩ : Sg)]) rfl rfl (HY1.out w2 _ rfl) (by unfold maxLen; have n1 := HLS.out; have n2 := HB2.out; (try simp only [List.length_cons, List.length_nil]); omega) (by have n1 := HLS.out; have n2 := HB2.out; (try simp only [List.length_cons, List.length_nil]); omega) hb3.size ?_
        intro v3 w3 hown3 hg3 hat3
        have hS3 : Below V.heap.size V w3 := hb3.grown hg3 hb3.size (fun j hj => ((hown2.alloc (.cells (⟨v.sg, v.nm, v.now, 0, 0, 0, false, v.now, 0⟩ : Sg).arr 49)).lt j hj).1)
        refine hK.out _ _ (fun _ => hS3) (fun _ => ?_)
        clear hK K
        (try simp only [Act.put, List.setIfInBounds_toArray, List.set_cons_zero, List.set_cons_succ])
        have hown5 : w3.ownsRow (w.heap.size + 5) 49 9 v3 (x.nS + 1) ((x.gs ++ [(⟨v.sg, v.nm, v.now, 0, 0, 0, false, v.now, 0⟩ : Sg)]).flatMap sgc) := by
          have h1 := own_low hown3 (show w.heap.size + 5 ≤ V.heap.size from H5V.out.sz)
          rw [← HLS.out, show ([(⟨v.sg, v.nm, v.now, 0, 0, 0, false, v.now, 0⟩ : Sg)] : List Sg).length = 1 from rfl, show 0 + x.nS + 1 = x.nS + 1 by omega] at h1
          rw [List.flatMap_append]
          simpa using h1
        obtain ⟨A4, c4, rfl⟩ := own_form hown5
        have HO4 := Lib.hid hown5
        clear hown5
        have hlen : x.nS + 1 = (x.gs ++ [(⟨v.sg, v.nm, v.now, 0, 0, 0, false, v.now, 0⟩ : Sg)]).length := by rw [List.length_append, ← HLS.out]; rfl
        have H54 := Lib.hid (H5V.out.on hS3)
        have HE4 := Lib.hid (H54.out.sag hlen HO4.out)
        have e40 : w3.cell? ⟨w.heap.size, 1, none⟩ = some (.slice x.AS x.nS x.cS) := H54.out.cells.2.1
        have f40 : w3.frozen? ⟨w.heap.size, 1, none⟩ = false := H54.out.x3.frozen 1
        clear hown3 hg3 hat3 hlen
        refine Un.utk 15 130 [16] rfl ?_ hS3
        refine u_ready (rs := [16]) (by decide +kernel) (by simp) ?_
        refine u_cons (o := ⟨none, _, _, _, _, _⟩) rfl (fun K hK => ?_) u_nil
        go_simp
        refine hK.out _ _ (fun hc => absurd hc (by decide +kernel)) (fun _ => ?_)
        clear hK K
        (try simp only [Act.put, List.setIfInBounds_toArray, List.set_cons_zero, List.set_cons_succ])
        refine u_done (by kernel_rfl) ?_ _
        clear e40 f40 z1 vc1 vc2 vc3
        go_upto_region 24 with fail
        generalize w3.setCell ⟨w.heap.size, 1, none⟩ (.slice A4 (x.nS + 1) c4) = W5 at *
        have hnx3 := HNX.out
        have e5 := HE50.out
        have q2 : W5.cell? ⟨w.heap.size, 2, none⟩ = some (.int .i64 x.nx) := HE4.out.cells.2.2
        have qf : W5.frozen? ⟨w.heap.size, 2, none⟩ = false := HE4.out.x3.frozen 2
        have HE5 := Lib.hid (HE4.out.nxt (x.nx + 1))
        clear HE4
        go_upto_region 25 with fail
        generalize W5.setCell ⟨w.heap.size, 2, none⟩ (.int .i64 (x.nx + 1)) = W6 at *
        clear q2 qf
        obtain ⟨y4, hy4⟩ : ∃ y4 : SV, y4 = ⟨x.AD, x.nD, x.cD, A4, x.nS + 1, c4, x.nx + 1, x.dx, x.gs ++ [(⟨v.sg, v.nm, v.now, 0, 0, 0, false, v.now, 0⟩ : Sg)]⟩ := ⟨_, rfl⟩
        have HE6 : Hid (Five w W6 y4 v A n c cm0) := Lib.hid (by rw [hy4]; exact HE5.out)
        have HYS : Hid (y4.st = ⟨x.dx.map DX.m, x.gs ++ [(⟨v.sg, v.nm, v.now, 0, 0, 0, false, v.now, 0⟩ : Sg)], x.nx + 1⟩) := Lib.hid (by rw [hy4]; rfl)
        clear hy4 HE5
        have HSS := Lib.hid (rs_start HE6.out)
        obtain ⟨z0, z1, z2, yc0, yc1, yc2, yc3, yc4, yc5⟩ := rs_cells w y4 cm0
        refine wp_region_held_drew (S := RS w y4 cm0) (by kernel_rfl) HSS.out (fun hHeld => ?_)
        refine Un.tk 0 135 rfl ?_
        refine Un.tk 1 136 rfl ?_
        have HS6 := Lib.hid (rs_far HSS.out (p := w.heap.size + 2) (by omega) (by omega) y4.arr)
        refine Sa.st1 2 27 _ _ rfl (w.heap.size + 2) 27 #[.slice none 0 0, .slice none 0 0, .int .i64 0] y4.arr rfl rfl HE6.out.drew.r6 (sizeT y4) rfl (oneT _) HS6.out (fun hHeld => ?_)
        have HS7 := Lib.hid (rs_far HS6.out (p := w.heap.size + 3) (by omega) (by omega) cm0.arr)
        refine Sa.st1 3 37 _ _ rfl (w.heap.size + 3) 37 cm0.arr cm0.arr rfl rfl (Sa.box_far HE6.out.drew.r7 (by omega) _) (Sa.sizeC _) rfl (Sa.oneC _) HS7.out (fun hHeld => ?_)
        refine Un.tk 4 8 rfl ?_
        refine wpAnyH_done (by kernel_rfl) ?_ _
        go_wp2
        have HE := five_end HE6.out.drew
        refine bodyPost_ret (res_st_cm_tmp rfl _ _ (w.heap.size + 2) (w.heap.size + 3) y4 cm0 rfl rfl HE.1 HE.2.1) rfl ?_
        refine ⟨y4, ?_, HE.2.2.1, ?_, HE.2.2.2⟩
        · rw [HF.out]; rfl
        · rw [HF.out]; exact HYS.out
    · as_aux_lemma =>
        refine step_build_saga _ (⟨v.sg, v.nm, v.now, 0, 0, 0, false, v.now, 0⟩ : Sg) (U0.heap.size + 1) (by simp) rfl (.tmp 127) rfl rfl ?_
        have hb2' := hb1.alloc hb1.size (.cells (⟨v.sg, v.nm, v.now, 0, 0, 0, false, v.now, 0⟩ : Sg).arr 49)
        have hy2 := HY1.out (U0.alloc (.cells #[] 49)) (U0.heap.size + 1) (by simp)
        refine hK.out _ _ (fun _ => hb2') (fun _ => ?_)
        clear hK K
        (try simp only [Act.put, List.setIfInBounds_toArray, List.set_cons_zero, List.set_cons_succ])
        refine u_ready (rs := [3]) (by decide +kernel) (by simp) ?_
        refine u_cons (o := ⟨some 118, _, _, _, _, _⟩) rfl (fun K hK => ?_) u_nil
        refine step_append_els (by decide) sg_len sg_one _ rfl (.tmp 115) (.tmp 117) 25 rfl V.heap.size 49 i0 zeroS 80 Tryz.underlying25 hi0 hz0 hz1 hz2 rfl _ (0) _ rfl ((lit_own (e := 49) (k := 9) V.heap.size U0 U0.heap.size rfl hu0z).alloc (.cells (⟨v.sg, v.nm, v.now, 0, 0, 0, false, v.now, 0⟩ : Sg).arr 49)) _ _ _ _ (x.gs) rfl HLS.out (HE1.out _ hb2') (by unfold maxLen; have n1 := HLS.out; have n2 := HB2.out; (try simp only [List.length_cons, List.length_nil]); omega) (by have n1 := HLS.out; have n2 := HB2.out; (try simp only [List.length_cons, List.length_nil]); omega) hb2'.size ?_
        intro v2 w2 hown2 hg2 hat2
        have hS2 : Below V.heap.size V w2 := hb2'.grown hg2 hb2'.size (fun j hj => (((lit_own (e := 49) (k := 9) V.heap.size U0 U0.heap.size rfl hu0z).alloc (.cells (⟨v.sg, v.nm, v.now, 0, 0, 0, false, v.now, 0⟩ : Sg).arr 49)).lt j hj).1)
        have hy3 := one_grown (row := some U0.heap.size) hy2 hg2 (by simp) (by simp)
        refine hK.out _ _ (fun _ => hS2) (fun _ => ?_)
        clear hK K
        (try simp only [Act.put, List.setIfInBounds_toArray, List.set_cons_zero, List.set_cons_succ])
        refine u_ready (rs := [14]) (by decide +kernel) (by simp) ?_
        refine u_cons (o := ⟨some 129, _, _, _, _, _⟩) rfl (fun K hK => ?_) u_nil
        refine step_append_els (by decide) sg_len sg_one _ rfl (.tmp 118) (.tmp 128) 25 rfl V.heap.size 49 i0 zeroS 80 Tryz.underlying25 hi0 hz0 hz1 hz2 rfl _ (0 + x.gs.length) _ rfl hown2 _ _ _ _ ([(⟨v.sg, v.nm, v.now, 0, 0, 0, false, v.now, 0⟩ : Sg)]) rfl rfl hy3 (by unfold maxLen; have n1 := HLS.out; have n2 := HB2.out; (try simp only [List.length_cons, List.length_nil]); omega) (by have n1 := HLS.out; have n2 := HB2.out; (try simp only [List.length_cons, List.length_nil]); omega) hS2.size ?_
        intro v3 w3 hown3 hg3 hat3
        have hS3 : Below V.heap.size V w3 := hS2.grown hg3 hS2.size (fun j hj => (hown2.lt j hj).1)
        refine hK.out _ _ (fun _ => hS3) (fun _ => ?_)
        clear hK K
        (try simp only [Act.put, List.setIfInBounds_toArray, List.set_cons_zero, List.set_cons_succ])
        have hown5 : w3.ownsRow (w.heap.size + 5) 49 9 v3 (x.nS + 1) ((x.gs ++ [(⟨v.sg, v.nm, v.now, 0, 0, 0, false, v.now, 0⟩ : Sg)]).flatMap sgc) := by
          have h1 := own_low hown3 (show w.heap.size + 5 ≤ V.heap.size from H5V.out.sz)
          rw [← HLS.out, show ([(⟨v.sg, v.nm, v.now, 0, 0, 0, false, v.now, 0⟩ : Sg)] : List Sg).length = 1 from rfl, show 0 + x.nS + 1 = x.nS + 1 by omega] at h1
          rw [List.flatMap_append]
          simpa using h1
        obtain ⟨A4, c4, rfl⟩ := own_form hown5
        have HO4 := Lib.hid hown5
        clear hown5
        have hlen : x.nS + 1 = (x.gs ++ [(⟨v.sg, v.nm, v.now, 0, 0, 0, false, v.now, 0⟩ : Sg)]).length := by rw [List.length_append, ← HLS.out]; rfl
        have H54 := Lib.hid (H5V.out.on hS3)
        have HE4 := Lib.hid (H54.out.sag hlen HO4.out)
        have e40 : w3.cell? ⟨w.heap.size, 1, none⟩ = some (.slice x.AS x.nS x.cS) := H54.out.cells.2.1
        have f40 : w3.frozen? ⟨w.heap.size, 1, none⟩ = false := H54.out.x3.frozen 1
        clear hown3 hg3 hat3 hlen
        refine Un.utk 15 130 [16] rfl ?_ hS3
        refine u_ready (rs := [16]) (by decide +kernel) (by simp) ?_
        refine u_cons (o := ⟨none, _, _, _, _, _⟩) rfl (fun K hK => ?_) u_nil
        go_simp
        refine hK.out _ _ (fun hc => absurd hc (by decide +kernel)) (fun _ => ?_)
        clear hK K
        (try simp only [Act.put, List.setIfInBounds_toArray, List.set_cons_zero, List.set_cons_succ])
        refine u_done (by kernel_rfl) ?_ _
        clear e40 f40 z1 vc1 vc2 vc3
        go_upto_region 24 with fail
        generalize w3.setCell ⟨w.heap.size, 1, none⟩ (.slice A4 (x.nS + 1) c4) = W5 at *
        have hnx3 := HNX.out
        have e5 := HE50.out
        have q2 : W5.cell? ⟨w.heap.size, 2, none⟩ = some (.int .i64 x.nx) := HE4.out.cells.2.2
        have qf : W5.frozen? ⟨w.heap.size, 2, none⟩ = false := HE4.out.x3.frozen 2
        have HE5 := Lib.hid (HE4.out.nxt (x.nx + 1))
        clear HE4
        go_upto_region 25 with fail
        generalize W5.setCell ⟨w.heap.size, 2, none⟩ (.int .i64 (x.nx + 1)) = W6 at *
        clear q2 qf
        obtain ⟨y4, hy4⟩ : ∃ y4 : SV, y4 = ⟨x.AD, x.nD, x.cD, A4, x.nS + 1, c4, x.nx + 1, x.dx, x.gs ++ [(⟨v.sg, v.nm, v.now, 0, 0, 0, false, v.now, 0⟩ : Sg)]⟩ := ⟨_, rfl⟩
        have HE6 : Hid (Five w W6 y4 v A n c cm0) := Lib.hid (by rw [hy4]; exact HE5.out)
        have HYS : Hid (y4.st = ⟨x.dx.map DX.m, x.gs ++ [(⟨v.sg, v.nm, v.now, 0, 0, 0, false, v.now, 0⟩ : Sg)], x.nx + 1⟩) := Lib.hid (by rw [hy4]; rfl)
        clear hy4 HE5
        have HSS := Lib.hid (rs_start HE6.out)
        obtain ⟨z0, z1, z2, yc0, yc1, yc2, yc3, yc4, yc5⟩ := rs_cells w y4 cm0
        refine wp_region_held_drew (S := RS w y4 cm0) (by kernel_rfl) HSS.out (fun hHeld => ?_)
        refine Un.tk 0 135 rfl ?_
        refine Un.tk 1 136 rfl ?_
        have HS6 := Lib.hid (rs_far HSS.out (p := w.heap.size + 2) (by omega) (by omega) y4.arr)
        refine Sa.st1 2 27 _ _ rfl (w.heap.size + 2) 27 #[.slice none 0 0, .slice none 0 0, .int .i64 0] y4.arr rfl rfl HE6.out.drew.r6 (sizeT y4) rfl (oneT _) HS6.out (fun hHeld => ?_)
        have HS7 := Lib.hid (rs_far HS6.out (p := w.heap.size + 3) (by omega) (by omega) cm0.arr)
        refine Sa.st1 3 37 _ _ rfl (w.heap.size + 3) 37 cm0.arr cm0.arr rfl rfl (Sa.box_far HE6.out.drew.r7 (by omega) _) (Sa.sizeC _) rfl (Sa.oneC _) HS7.out (fun hHeld => ?_)
        refine Un.tk 4 8 rfl ?_
        refine wpAnyH_done (by kernel_rfl) ?_ _
        go_wp2
        have HE := five_end HE6.out.drew
        refine bodyPost_ret (res_st_cm_tmp rfl _ _ (w.heap.size + 2) (w.heap.size + 3) y4 cm0 rfl rfl HE.1 HE.2.1) rfl ?_
        refine ⟨y4, ?_, HE.2.2.1, ?_, HE.2.2.2⟩
        · rw [HF.out]; rfl
        · rw [HF.out]; exact HYS.out
  · as_aux_lemma =>
      refine step_build_saga _ (⟨v.sg, v.nm, v.now, 0, 0, 0, false, v.now, 0⟩ : Sg) U0.heap.size rfl rfl (.tmp 127) rfl rfl ?_
      have hb1 := hu0.alloc hu0z (.cells (⟨v.sg, v.nm, v.now, 0, 0, 0, false, v.now, 0⟩ : Sg).arr 49)
      have hy1 := HY1.out U0 _ rfl
      refine hK.out _ _ (fun _ => hb1) (fun _ => ?_)
      clear hK K
      (try simp only [Act.put, List.setIfInBounds_toArray, List.set_cons_zero, List.set_cons_succ])
      refine u_ready (rs := [0]) (by decide +kernel) (by simp) ?_
      refine u_cons (o := ⟨some 115, _, _, _, _, _⟩) rfl (fun K hK => ?_) u_nil
      go_simp
      have hb2' := hb1.alloc hb1.size (.cells #[] 49)
      have hy2 := Els.below hy1 ((Below.refl (U0.heap.size + 1) (U0.alloc (.cells (⟨v.sg, v.nm, v.now, 0, 0, 0, false, v.now, 0⟩ : Sg).arr 49))).alloc (by simp) (.cells #[] 49))
      refine hK.out _ _ (fun _ => hb2') (fun _ => ?_)
      clear hK K
      (try simp only [Act.put, List.setIfInBounds_toArray, List.set_cons_zero, List.set_cons_succ])
      refine u_ready (rs := [3]) (by decide +kernel) (by simp) ?_
      refine u_cons (o := ⟨some 118, _, _, _, _, _⟩) rfl (fun K hK => ?_) u_nil
      refine step_append_els (by decide) sg_len sg_one _ rfl (.tmp 115) (.tmp 117) 25 rfl V.heap.size 49 i0 zeroS 80 Tryz.underlying25 hi0 hz0 hz1 hz2 rfl _ (0) _ rfl (lit_own (e := 49) (k := 9) V.heap.size (U0.alloc (.cells (⟨v.sg, v.nm, v.now, 0, 0, 0, false, v.now, 0⟩ : Sg).arr 49)) (U0.heap.size + 1) (by simp) (by omega)) _ _ _ _ (x.gs) rfl HLS.out (HE1.out _ hb2') (by unfold maxLen; have n1 := HLS.out; have n2 := HB2.out; (try simp only [List.length_cons, List.length_nil]); omega) (by have n1 := HLS.out; have n2 := HB2.out; (try simp only [List.length_cons, List.length_nil]); omega) hb2'.size ?_
      intro v2 w2 hown2 hg2 hat2
      have hS2 : Below V.heap.size V w2 := hb2'.grown hg2 hb2'.size (fun j hj => ((lit_own (e := 49) (k := 9) V.heap.size (U0.alloc (.cells (⟨v.sg, v.nm, v.now, 0, 0, 0, false, v.now, 0⟩ : Sg).arr 49)) (U0.heap.size + 1) (by simp) (by omega)).lt j hj).1)
      have hy3 := one_grown (row := some (U0.heap.size + 1)) hy2 hg2 (by simp; omega) (by simp)
      refine hK.out _ _ (fun _ => hS2) (fun _ => ?_)
      clear hK K
      (try simp only [Act.put, List.setIfInBounds_toArray, List.set_cons_zero, List.set_cons_succ])
      refine u_ready (rs := [14]) (by decide +kernel) (by simp) ?_
      refine u_cons (o := ⟨some 129, _, _, _, _, _⟩) rfl (fun K hK => ?_) u_nil
      refine step_append_els (by decide) sg_len sg_one _ rfl (.tmp 118) (.tmp 128) 25 rfl V.heap.size 49 i0 zeroS 80 Tryz.underlying25 hi0 hz0 hz1 hz2 rfl _ (0 + x.gs.length) _ rfl hown2 _ _ _ _ ([(⟨v.sg, v.nm, v.now, 0, 0, 0, false, v.now, 0⟩ : Sg)]) rfl rfl hy3 (by unfold maxLen; have n1 := HLS.out; have n2 := HB2.out; (try simp only [List.length_cons, List.length_nil]); omega) (by have n1 := HLS.out; have n2 := HB2.out; (try simp only [List.length_cons, List.length_nil]); omega) hS2.size ?_
      intro v3 w3 hown3 hg3 hat3
      have hS3 : Below V.heap.size V w3 := hS2.grown hg3 hS2.size (fun j hj => (hown2.lt j hj).1)
      refine hK.out _ _ (fun _ => hS3) (fun _ => ?_)
      clear hK K
      (try simp only [Act.put, List.setIfInBounds_toArray, List.set_cons_zero, List.set_cons_succ])
      have hown5 : w3.ownsRow (w.heap.size + 5) 49 9 v3 (x.nS + 1) ((x.gs ++ [(⟨v.sg, v.nm, v.now, 0, 0, 0, false, v.now, 0⟩ : Sg)]).flatMap sgc) := by
        have h1 := own_low hown3 (show w.heap.size + 5 ≤ V.heap.size from H5V.out.sz)
        rw [← HLS.out, show ([(⟨v.sg, v.nm, v.now, 0, 0, 0, false, v.now, 0⟩ : Sg)] : List Sg).length = 1 from rfl, show 0 + x.nS + 1 = x.nS + 1 by omega] at h1
        rw [List.flatMap_append]
        simpa using h1
      obtain ⟨A4, c4, rfl⟩ := own_form hown5
      have HO4 := Lib.hid hown5
      clear hown5
      have hlen : x.nS + 1 = (x.gs ++ [(⟨v.sg, v.nm, v.now, 0, 0, 0, false, v.now, 0⟩ : Sg)]).length := by rw [List.length_append, ← HLS.out]; rfl
      have H54 := Lib.hid (H5V.out.on hS3)
      have HE4 := Lib.hid (H54.out.sag hlen HO4.out)
      have e40 : w3.cell? ⟨w.heap.size, 1, none⟩ = some (.slice x.AS x.nS x.cS) := H54.out.cells.2.1
      have f40 : w3.frozen? ⟨w.heap.size, 1, none⟩ = false := H54.out.x3.frozen 1
      clear hown3 hg3 hat3 hlen
      refine Un.utk 15 130 [16] rfl ?_ hS3
      refine u_ready (rs := [16]) (by decide +kernel) (by simp) ?_
      refine u_cons (o := ⟨none, _, _, _, _, _⟩) rfl (fun K hK => ?_) u_nil
      go_simp
      refine hK.out _ _ (fun hc => absurd hc (by decide +kernel)) (fun _ => ?_)
      clear hK K
      (try simp only [Act.put, List.setIfInBounds_toArray, List.set_cons_zero, List.set_cons_succ])
      refine u_done (by kernel_rfl) ?_ _
      clear e40 f40 z1 vc1 vc2 vc3
      go_upto_region 24 with fail
      generalize w3.setCell ⟨w.heap.size, 1, none⟩ (.slice A4 (x.nS + 1) c4) = W5 at *
      have hnx3 := HNX.out
      have e5 := HE50.out
      have q2 : W5.cell? ⟨w.heap.size, 2, none⟩ = some (.int .i64 x.nx) := HE4.out.cells.2.2
      have qf : W5.frozen? ⟨w.heap.size, 2, none⟩ = false := HE4.out.x3.frozen 2
      have HE5 := Lib.hid (HE4.out.nxt (x.nx + 1))
      clear HE4
      go_upto_region 25 with fail
      generalize W5.setCell ⟨w.heap.size, 2, none⟩ (.int .i64 (x.nx + 1)) = W6 at *
      clear q2 qf
      obtain ⟨y4, hy4⟩ : ∃ y4 : SV, y4 = ⟨x.AD, x.nD, x.cD, A4, x.nS + 1, c4, x.nx + 1, x.dx, x.gs ++ [(⟨v.sg, v.nm, v.now, 0, 0, 0, false, v.now, 0⟩ : Sg)]⟩ := ⟨_, rfl⟩
      have HE6 : Hid (Five w W6 y4 v A n c cm0) := Lib.hid (by rw [hy4]; exact HE5.out)
      have HYS : Hid (y4.st = ⟨x.dx.map DX.m, x.gs ++ [(⟨v.sg, v.nm, v.now, 0, 0, 0, false, v.now, 0⟩ : Sg)], x.nx + 1⟩) := Lib.hid (by rw [hy4]; rfl)
      clear hy4 HE5
      have HSS := Lib.hid (rs_start HE6.out)
      obtain ⟨z0, z1, z2, yc0, yc1, yc2, yc3, yc4, yc5⟩ := rs_cells w y4 cm0
      refine wp_region_held_drew (S := RS w y4 cm0) (by kernel_rfl) HSS.out (fun hHeld => ?_)
      refine Un.tk 0 135 rfl ?_
      refine Un.tk 1 136 rfl ?_
      have HS6 := Lib.hid (rs_far HSS.out (p := w.heap.size + 2) (by omega) (by omega) y4.arr)
      refine Sa.st1 2 27 _ _ rfl (w.heap.size + 2) 27 #[.slice none 0 0, .slice none 0 0, .int .i64 0] y4.arr rfl rfl HE6.out.drew.r6 (sizeT y4) rfl (oneT _) HS6.out (fun hHeld => ?_)
      have HS7 := Lib.hid (rs_far HS6.out (p := w.heap.size + 3) (by omega) (by omega) cm0.arr)
      refine Sa.st1 3 37 _ _ rfl (w.heap.size + 3) 37 cm0.arr cm0.arr rfl rfl (Sa.box_far HE6.out.drew.r7 (by omega) _) (Sa.sizeC _) rfl (Sa.oneC _) HS7.out (fun hHeld => ?_)
      refine Un.tk 4 8 rfl ?_
      refine wpAnyH_done (by kernel_rfl) ?_ _
      go_wp2
      have HE := five_end HE6.out.drew
      refine bodyPost_ret (res_st_cm_tmp rfl _ _ (w.heap.size + 2) (w.heap.size + 3) y4 cm0 rfl rfl HE.1 HE.2.1) rfl ?_
      refine ⟨y4, ?_, HE.2.2.1, ?_, HE.2.2.2⟩
      · rw [HF.out]; rfl
      · rw [HF.out]; exact HYS.out
end
end Go.Proofs.YteejocnogpaifaaGreatDoor.Tt
