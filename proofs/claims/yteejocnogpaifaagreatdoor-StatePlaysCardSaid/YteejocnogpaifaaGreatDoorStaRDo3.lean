/-
  What the document's Do of states answers: acts, and what is forgotten.
  Conditions: the state and the event lie in memory, the state is right, it has fewer than 1,048,576 sagas; texts are of a moderate size.
-/
import Derived.Test.YteejocnogpaifaaGreatDoorStaRDo2
import Derived.Test.YteejocnogpaifaaGreatDoorSagRDo
import Derived.Test.YteejocnogpaifaaGreatDoorSagREmit
import Derived.Test.YteejocnogpaifaaGreatDoorSagRReply
import Derived.Test.YteejocnogpaifaaGreatDoorSagRMay
namespace Go.Proofs.YteejocnogpaifaaGreatDoor.Tt
open Go.RowKit
open Go.Proofs.YteejocnogpaifaaGreatDoor.El
open Go.Proofs.YteejocnogpaifaaGreatDoor.Df
open Go.Proofs.YteejocnogpaifaaGreatDoor.Un
open Go.Proofs.YteejocnogpaifaaGreatDoor.Bo (P Made ret_int ret_bool)
open Go.Proofs.YteejocnogpaifaaGreatDoor.Sa (Sg Cm Rp cm0)
open Go.Proofs.YteejocnogpaifaaGreatDoor.Co (Ev Mod evc EvIn goodE)
theorem good_at {x : SV} (hi : Inv x.st) {i j : Nat} {s : Sg} {d : DX} (hs : x.gs[i]? = some s) (hj : findX x.dx s.dn = (j : Int)) (hd : x.dx[j]? = some d) : Sa.GoodS d.nm d.dl d.ss s := by
  obtain ⟨k, _, _, _, _, _, h6⟩ := OkS.at_ hi.ok.ds.rise (hi.ok.gs s (List.mem_of_getElem? hs))
  have hf : findD x.st.ds s.dn = (j : Int) := (findX_is x.dx s.dn).trans hj
  have hm : dmOf x.st.ds (j : Int) = ⟨d.nm, d.dl, d.ss⟩ := dmOf_is (by show (x.dx.map DX.m)[j]? = _; rw [List.getElem?_map, hd]; rfl)
  rw [hf, hm] at h6
  exact h6
theorem do_act_is {x : SV} {v : Ev} {lim : Int} (hg : goodE v = true) (hk : 2 ≤ v.k ∧ v.k ≤ 9) : doS x.st v lim = actS x.st v := by
  unfold doS
  rw [if_neg (by rw [hg]; simp), if_neg (by omega), if_neg (by omega), if_neg (by omega)]
theorem do_some {x : SV} {v : Ev} {lim : Int} (hg : goodE v = true) (hk : 2 ≤ v.k ∧ v.k ≤ 9) {i j : Nat} {s : Sg} {d : DX} (h : findS x.gs v.sg = (i : Int)) (hs : x.gs[i]? = some s) (hj : findX x.dx s.dn = (j : Int)) (hd : x.dx[j]? = some d) {Y : Sg × Cm × Int} (hY : actA ⟨d.nm, d.dl, d.ss⟩ s v = Y) :
    doS x.st v lim = (⟨x.dx.map DX.m, x.gs.set i Y.1, x.nx⟩, Y.2.1, Y.2.2) := by
  rw [do_act_is hg hk, actS_some h hs hj hd, hY]
theorem do_err {x : SV} {v : Ev} {lim : Int} (hi : Inv x.st) (hg : goodE v = true) (hk : 2 ≤ v.k ∧ v.k ≤ 9) {i j : Nat} {s : Sg} {d : DX} (h : findS x.gs v.sg = (i : Int)) (hs : x.gs[i]? = some s) (hj : findX x.dx s.dn = (j : Int)) (hd : x.dx[j]? = some d) {Y : Sg × Cm × Int} (hY : actA ⟨d.nm, d.dl, d.ss⟩ s v = Y) (he : Y.2.2 ≠ 0) :
    doS x.st v lim = (x.st, Y.2.1, Y.2.2) := by
  rw [do_some hg hk h hs hj hd hY]
  have h1 : Y.1 = s := by
    rw [← hY] at he ⊢
    exact (good_doA (good_at hi hs hj hd)).2 he
  have h2 : x.gs.set i s = x.gs := by obtain ⟨hlt, rfl⟩ := List.getElem?_eq_some_iff.1 hs; exact List.set_getElem_self hlt
  rw [h1, h2]
  rfl
theorem act_emit {d : DX} {s : Sg} {v : Ev} (hk : v.k = 2) : actA ⟨d.nm, d.dl, d.ss⟩ s v = Sa.emitA d.nm d.dl d.ss s v.now := by
  have h : acK v.k = 0 := by unfold acK; rw [if_pos hk]
  unfold actA Sa.doA
  dsimp only
  rw [h, if_pos (by decide)]
theorem act_reply {d : DX} {s : Sg} {v : Ev} (hk : v.k = 3) : actA ⟨d.nm, d.dl, d.ss⟩ s v = ((Sa.replyA d.nm d.dl d.ss s v.r v.now).1, cm0, (Sa.replyA d.nm d.dl d.ss s v.r v.now).2) := by
  have h : acK v.k = 3 := by unfold acK; rw [if_neg (by omega), if_pos hk]
  unfold actA Sa.doA
  dsimp only
  rw [h, if_neg (by decide), if_pos (by decide)]
theorem act_num {d : DX} {s : Sg} {v : Ev} (hk : 4 ≤ v.k ∧ v.k ≤ 9) : actA ⟨d.nm, d.dl, d.ss⟩ s v = ((Sa.numA d.nm d.dl d.ss s (v.k - 4) v.now).1, cm0, (Sa.numA d.nm d.dl d.ss s (v.k - 4) v.now).2) := by
  have h : acK v.k = v.k + 2 := by unfold acK; rw [if_neg (by omega), if_neg (by omega)]
  unfold actA Sa.doA
  dsimp only
  rw [h, if_neg (by omega), if_neg (by omega), if_pos (by omega), show v.k + 2 - 6 = v.k - 4 by omega]
theorem Five.turn {w W : World} {x : SV} {v : Ev} {A : Option Addr} {n c : Nat} {C : Cm} (h : Five w W x v A n c C) (hx : SIn w x) {p : Nat} (hp : w.heap.size + 5 ≤ p) (cs : Array Value) : Five w (W.setRow p cs) x v A n c C :=
  ⟨Sa.below_row h.bel (by omega) _, Sa.box_far h.x3 (by omega) _, Sa.box_far h.v4 (by omega) _, Sa.box_far h.r6 (by omega) _, Sa.box_far h.r7 (by omega) _, Sa.box_far h.c9 (by omega) _, by rw [setRow_size]; exact h.sz,
    fun U hU => hx.on ((Sa.below_row h.bel (by omega) _).trans (hU.below (by rw [setRow_size]; have := h.sz; omega)))⟩
theorem sgcells {w : World} {g : Nat} {s : Sg} (h : Box w g 49 #[.int .i64 s.id, .string s.dn, .int .i64 s.st, .int .i64 s.ph, .int .i64 s.sp, .int .i64 s.tr, .bool s.out, .int .i64 s.at_, .int .i64 s.sk]) : w.cell? ⟨g, 0, none⟩ = some (.int .i64 s.id) ∧ w.cell? ⟨g, 1, none⟩ = some (.string s.dn) ∧ w.cell? ⟨g, 2, none⟩ = some (.int .i64 s.st) ∧ w.cell? ⟨g, 3, none⟩ = some (.int .i64 s.ph) ∧ w.cell? ⟨g, 4, none⟩ = some (.int .i64 s.sp) ∧ w.cell? ⟨g, 5, none⟩ = some (.int .i64 s.tr) ∧ w.cell? ⟨g, 6, none⟩ = some (.bool s.out) ∧ w.cell? ⟨g, 7, none⟩ = some (.int .i64 s.at_) ∧ w.cell? ⟨g, 8, none⟩ = some (.int .i64 s.sk) := ⟨h.cell 0, h.cell 1, h.cell 2, h.cell 3, h.cell 4, h.cell 5, h.cell 6, h.cell 7, h.cell 8⟩
theorem dxcells {w : World} {g : Nat} {d : DX} (h : Box w g 33 #[.string d.nm, .int .i64 d.dl, .slice d.A d.n d.c]) : w.cell? ⟨g, 0, none⟩ = some (.string d.nm) ∧ w.cell? ⟨g, 1, none⟩ = some (.int .i64 d.dl) ∧ w.cell? ⟨g, 2, none⟩ = some (.slice d.A d.n d.c) := ⟨h.cell 0, h.cell 1, h.cell 2⟩
theorem sizeD1 (d : DX) : (Tryz.prog.info? 33).map (·.size) = some (#[.string d.nm, .int .i64 d.dl, .slice d.A d.n d.c] : Array Value).size := by show (Tryz.prog.info? 33).map (·.size) = some 3; kernel_rfl
theorem oneD1 (d : DX) : (#[.string d.nm, .int .i64 d.dl, .slice d.A d.n d.c] : Array Value).all (·.oneCell') = true := by simp [Value.oneCell']
section
variable (x : SV) (v : Ev) (A : Option Addr) (n c : Nat) (lim : Int) (w : World) (hx : SIn w x) (hi : Inv x.st) (hb2 : x.nS < 1048576) (hv : EvIn w v A n c) (h0 : A = none → n = 0 ∧ c = 0) (ht : Df.Tab w)
include hx hi hb2 hv h0 ht
omit h0 in
set_option maxHeartbeats 4000000 in
set_option maxRecDepth 100000 in
theorem rdo_gone (hg : goodE v = true) (hk : 2 ≤ v.k ∧ v.k ≤ 10) (hf : findS x.gs v.sg = -1) (hF : doS x.st v lim = (x.st, cm0, 7)) : Calls Tryz.prog 8 #[.agg #[.slice x.AD x.nD x.cD, .slice x.AS x.nS x.cS, .int .i64 x.nx], .agg #[.int .i64 v.k, .int .i64 v.now, .int .i64 v.sg, .string v.nm, .int .i64 v.r.sg, .int .i64 v.r.sp, .bool v.r.un, .int .i64 v.r.tr, .bool v.r.good, .string v.dn, .int .i64 v.dl, .slice A n c], .int .i64 lim] w (RDoIs w x v lim) := by
  have hfew : x.nD ≤ 64 := by have h1 := hx.lD; have h2 := hi.ok.ds.few; have h3 : x.st.ds.length = x.dx.length := List.length_map _; omega
  obtain ⟨hF0, hZ0, hX6⟩ := four_new w x v A n c
  have H50 : Hid (Five w (((((w.alloc (.cells #[.slice x.AD x.nD x.cD, .slice x.AS x.nS x.cS, .int .i64 x.nx] 27)).alloc (.cells #[.int .i64 v.k, .int .i64 v.now, .int .i64 v.sg, .string v.nm, .int .i64 v.r.sg, .int .i64 v.r.sp, .bool v.r.un, .int .i64 v.r.tr, .bool v.r.good, .string v.dn, .int .i64 v.dl, .slice A n c] 35)).alloc (.cells #[.slice none 0 0, .slice none 0 0, .int .i64 0] 27)).alloc (.cells #[.int .i64 0, .int .i64 0, .bool false, .int .i64 0, .string ⟨#[]⟩, .string ⟨#[]⟩] 37)).alloc (.cells #[.int .i64 0, .int .i64 0, .bool false, .int .i64 0, .string ⟨#[]⟩, .string ⟨#[]⟩] 37)) x v A n c cm0) := Lib.hid (five_new hF0 hZ0 hX6 hx)
  have HGV := Lib.hid (fun W (hW : Below w.heap.size w W) => Co.rgoodE_any v A n c W (hv.on hW))
  have HGS := Lib.hid (fun W (hW : Below w.heap.size w W) => rgood16_any x W (hx.on hW) hi (tab_below ht hW) (by omega))
  have HFS := Lib.hid (fun W (hW : Below w.heap.size w W) => rfindS_any x v.sg W (hx.on hW) (by omega))
  have e0 : (v.k == 0) = false := by simp; omega
  have e1 : (v.k == 1) = false := by simp; omega
  rw [hg] at HGV
  rw [hf] at HFS
  have HX := Lib.hid hx
  have HLS := Lib.hid hx.lS
  have HB2 := Lib.hid hb2
  have HF := Lib.hid hF
  clear hg hf hk hF hb2
  clear hF0 hZ0 hX6
  go_enter Tryz.func8, Tryz.ntmps8
  go_upto_region 2 with fail
  generalize (((((w.alloc (.cells #[.slice x.AD x.nD x.cD, .slice x.AS x.nS x.cS, .int .i64 x.nx] 27)).alloc (.cells #[.int .i64 v.k, .int .i64 v.now, .int .i64 v.sg, .string v.nm, .int .i64 v.r.sg, .int .i64 v.r.sp, .bool v.r.un, .int .i64 v.r.tr, .bool v.r.good, .string v.dn, .int .i64 v.dl, .slice A n c] 35)).alloc (.cells #[.slice none 0 0, .slice none 0 0, .int .i64 0] 27)).alloc (.cells #[.int .i64 0, .int .i64 0, .bool false, .int .i64 0, .string ⟨#[]⟩, .string ⟨#[]⟩] 37)).alloc (.cells #[.int .i64 0, .int .i64 0, .bool false, .int .i64 0, .string ⟨#[]⟩, .string ⟨#[]⟩] 37)) = W1 at *
  obtain ⟨k0, k1, k2, k3, k4, k5, k6, k7, k8, k9, k10, k11⟩ := evc H50.out.v4
  go_upto_region 28 with (first
    | (go_at_call 21; (with_reducible refine (HGV.out _ H50.out.bel).mono ?_); rintro e w2 ⟨rfl, hb2'⟩; have H52 := Lib.hid (H50.out.on hb2'); obtain ⟨b0, b1, b2⟩ := H52.out.cells; clear hb2')
    | (go_at_call 22; (with_reducible refine (HGS.out _ H52.out.bel).mono ?_); rintro e w3 ⟨rfl, hb3'⟩; have H53 := Lib.hid (H52.out.on hb3'); obtain ⟨c0, c1, c2⟩ := H53.out.cells; obtain ⟨j0, j1, j2, j3, j4, j5, j6, j7, j8, j9, j10, j11⟩ := evc H53.out.v4; clear hb3')
    | (go_at_call 13; (with_reducible refine (HFS.out _ H53.out.bel).mono ?_); rintro e w4 ⟨rfl, hm4⟩; have H54 := Lib.hid (H53.out.on hm4.below); obtain ⟨d0, d1, d2⟩ := H54.out.cells; clear hm4))
  clear HGV HGS HFS H50 H52 H53
  clear k0 k1 k2 k3 k4 k5 k6 k7 k8 k9 k10 k11 b0 b1 b2 c0 c1 c2 j0 j1 j2 j3 j4 j5 j6 j7 j8 j9 j10 j11
  clear d0 d1 d2
  have HSS := Lib.hid (rs_start H54.out)
  obtain ⟨z0, z1, z2, yc0, yc1, yc2, yc3, yc4, yc5⟩ := rs_cells w x cm0
  refine wp_region_held_drew (S := RS w x cm0) (by kernel_rfl) HSS.out (fun hHeld => ?_)
  refine Un.tk 0 143 rfl ?_
  refine Un.tk 1 144 rfl ?_
  have HS6 := Lib.hid (rs_far HSS.out (p := w.heap.size + 2) (by omega) (by omega) x.arr)
  refine Sa.st1 2 27 _ _ rfl (w.heap.size + 2) 27 #[.slice none 0 0, .slice none 0 0, .int .i64 0] x.arr rfl rfl H54.out.drew.r6 (sizeT x) rfl (oneT _) HS6.out (fun hHeld => ?_)
  have HS7 := Lib.hid (rs_far HS6.out (p := w.heap.size + 3) (by omega) (by omega) cm0.arr)
  refine Sa.st1 3 37 _ _ rfl (w.heap.size + 3) 37 cm0.arr cm0.arr rfl rfl (Sa.box_far H54.out.drew.r7 (by omega) _) (Sa.sizeC _) rfl (Sa.oneC _) HS7.out (fun hHeld => ?_)
  refine Un.tk 4 8 rfl ?_
  refine wpAnyH_done (by kernel_rfl) ?_ _
  go_wp2
  have HE := five_end H54.out.drew
  refine bodyPost_ret (res_st_cm_tmp rfl _ _ (w.heap.size + 2) (w.heap.size + 3) x cm0 rfl rfl HE.1 HE.2.1) rfl ?_
  refine ⟨x, ?_, HE.2.2.1, ?_, HE.2.2.2⟩
  · rw [HF.out]; rfl
  · rw [HF.out]
omit h0 in
set_option maxHeartbeats 40000000 in
set_option maxRecDepth 100000 in
theorem rdo_acts (hg : goodE v = true) (hk : 2 ≤ v.k ∧ v.k ≤ 10) {i j : Nat} {s : Sg} {d : DX} (hf : findS x.gs v.sg = (i : Int)) (hs : x.gs[i]? = some s) (hj : findX x.dx s.dn = (j : Int)) (hd : x.dx[j]? = some d) : Calls Tryz.prog 8 #[.agg #[.slice x.AD x.nD x.cD, .slice x.AS x.nS x.cS, .int .i64 x.nx], .agg #[.int .i64 v.k, .int .i64 v.now, .int .i64 v.sg, .string v.nm, .int .i64 v.r.sg, .int .i64 v.r.sp, .bool v.r.un, .int .i64 v.r.tr, .bool v.r.good, .string v.dn, .int .i64 v.dl, .slice A n c], .int .i64 lim] w (RDoIs w x v lim) := by
  have hfew : x.nD ≤ 64 := by have h1 := hx.lD; have h2 := hi.ok.ds.few; have h3 : x.st.ds.length = x.dx.length := List.length_map _; omega
  obtain ⟨hF0, hZ0, hX6⟩ := four_new w x v A n c
  have H50 : Hid (Five w (((((w.alloc (.cells #[.slice x.AD x.nD x.cD, .slice x.AS x.nS x.cS, .int .i64 x.nx] 27)).alloc (.cells #[.int .i64 v.k, .int .i64 v.now, .int .i64 v.sg, .string v.nm, .int .i64 v.r.sg, .int .i64 v.r.sp, .bool v.r.un, .int .i64 v.r.tr, .bool v.r.good, .string v.dn, .int .i64 v.dl, .slice A n c] 35)).alloc (.cells #[.slice none 0 0, .slice none 0 0, .int .i64 0] 27)).alloc (.cells #[.int .i64 0, .int .i64 0, .bool false, .int .i64 0, .string ⟨#[]⟩, .string ⟨#[]⟩] 37)).alloc (.cells #[.int .i64 0, .int .i64 0, .bool false, .int .i64 0, .string ⟨#[]⟩, .string ⟨#[]⟩] 37)) x v A n c cm0) := Lib.hid (five_new hF0 hZ0 hX6 hx)
  have HGV := Lib.hid (fun W (hW : Below w.heap.size w W) => Co.rgoodE_any v A n c W (hv.on hW))
  have HGS := Lib.hid (fun W (hW : Below w.heap.size w W) => rgood16_any x W (hx.on hW) hi (tab_below ht hW) (by omega))
  have HFS := Lib.hid (fun W (hW : Below w.heap.size w W) => rfindS_any x v.sg W (hx.on hW) (by omega))
  have e0 : (v.k == 0) = false := by simp; omega
  have e1 : (v.k == 1) = false := by simp; omega
  rw [hg] at HGV
  rw [hf] at HFS
  have HX := Lib.hid hx
  have HLS := Lib.hid hx.lS
  have HB2 := Lib.hid hb2
  have HG := Lib.hid hg
  have HK := Lib.hid hk
  have HFI := Lib.hid hf
  have HJ := Lib.hid hj
  have HI := Lib.hid hi
  have HS := Lib.hid hs
  have HDD := Lib.hid hd
  have HFX := Lib.hid (fun W (hW : Below w.heap.size w W) => by
    have := rfindD_any x s.dn W (hx.on hW) (by have := hx.lD; have h2 := hi.ok.ds.few; have h3 : x.st.ds.length = x.dx.length := List.length_map _; omega)
    rw [hj] at this
    exact this)
  have HDN := Lib.hid ((hx.each d (List.mem_of_getElem? hd)).dn ht)
  have HTR := Lib.hid (hi.tr s (List.mem_of_getElem? hs))
  clear hg hf hk hb2 hs hj hd
  clear hF0 hZ0 hX6
  go_enter Tryz.func8, Tryz.ntmps8
  go_upto_region 2 with fail
  generalize (((((w.alloc (.cells #[.slice x.AD x.nD x.cD, .slice x.AS x.nS x.cS, .int .i64 x.nx] 27)).alloc (.cells #[.int .i64 v.k, .int .i64 v.now, .int .i64 v.sg, .string v.nm, .int .i64 v.r.sg, .int .i64 v.r.sp, .bool v.r.un, .int .i64 v.r.tr, .bool v.r.good, .string v.dn, .int .i64 v.dl, .slice A n c] 35)).alloc (.cells #[.slice none 0 0, .slice none 0 0, .int .i64 0] 27)).alloc (.cells #[.int .i64 0, .int .i64 0, .bool false, .int .i64 0, .string ⟨#[]⟩, .string ⟨#[]⟩] 37)).alloc (.cells #[.int .i64 0, .int .i64 0, .bool false, .int .i64 0, .string ⟨#[]⟩, .string ⟨#[]⟩] 37)) = W1 at *
  obtain ⟨k0, k1, k2, k3, k4, k5, k6, k7, k8, k9, k10, k11⟩ := evc H50.out.v4
  go_upto_region 29 with (first
    | (go_at_call 21; (with_reducible refine (HGV.out _ H50.out.bel).mono ?_); rintro e w2 ⟨rfl, hb2'⟩; have H52 := Lib.hid (H50.out.on hb2'); obtain ⟨b0, b1, b2⟩ := H52.out.cells; clear hb2')
    | (go_at_call 22; (with_reducible refine (HGS.out _ H52.out.bel).mono ?_); rintro e w3 ⟨rfl, hb3'⟩; have H53 := Lib.hid (H52.out.on hb3'); obtain ⟨c0, c1, c2⟩ := H53.out.cells; obtain ⟨j0, j1, j2, j3, j4, j5, j6, j7, j8, j9, j10, j11⟩ := evc H53.out.v4; clear hb3')
    | (go_at_call 13; (with_reducible refine (HFS.out _ H53.out.bel).mono ?_); rintro e w4 ⟨rfl, hm4⟩; have H54 := Lib.hid (H53.out.on hm4.below); obtain ⟨d0, d1, d2⟩ := H54.out.cells; clear hm4))
  clear HGV HGS HFS H50 H52 H53
  clear k0 k1 k2 k3 k4 k5 k6 k7 k8 k9 k10 k11 b0 b1 b2 c0 c1 c2 j0 j1 j2 j3 j4 j5 j6 j7 j8 j9 j10 j11
  obtain ⟨qs, os, hAS, hqs, hsc⟩ := H54.out.here.hS i s HS.out
  rw [hAS] at d1
  have s0 : w4.cell? ⟨qs, os + i * 9, none⟩ = some (.int .i64 s.id) := hsc 0 _ rfl
  have s1 : w4.cell? ⟨qs, os + i * 9 + 1, none⟩ = some (.string s.dn) := hsc 1 _ rfl
  have s2 : w4.cell? ⟨qs, os + i * 9 + 2, none⟩ = some (.int .i64 s.st) := hsc 2 _ rfl
  have s3 : w4.cell? ⟨qs, os + i * 9 + 3, none⟩ = some (.int .i64 s.ph) := hsc 3 _ rfl
  have s4 : w4.cell? ⟨qs, os + i * 9 + 4, none⟩ = some (.int .i64 s.sp) := hsc 4 _ rfl
  have s5 : w4.cell? ⟨qs, os + i * 9 + 5, none⟩ = some (.int .i64 s.tr) := hsc 5 _ rfl
  have s6 : w4.cell? ⟨qs, os + i * 9 + 6, none⟩ = some (.bool s.out) := hsc 6 _ rfl
  have s7 : w4.cell? ⟨qs, os + i * 9 + 7, none⟩ = some (.int .i64 s.at_) := hsc 7 _ rfl
  have s8 : w4.cell? ⟨qs, os + i * 9 + 8, none⟩ = some (.int .i64 s.sk) := hsc 8 _ rfl
  have hil : (i : Int) < (x.nS : Int) := by have := HLS.out; have h1 := El.at_lt HS.out; omega
  go_upto_region 30 with fail
  clear s0 s1 s2 s3 s4 s5 s6 s7 s8 hsc hAS hqs d0 d1 d2 hil
  have hb40 := below_al w4 (.cells #[.int .i64 s.id, .string s.dn, .int .i64 s.st, .int .i64 s.ph, .int .i64 s.sp, .int .i64 s.tr, .bool s.out, .int .i64 s.at_, .int .i64 s.sk] 49)
  have H55 := Lib.hid (H54.out.on hb40)
  have HBS := Lib.hid (Box.new w4 49 #[.int .i64 s.id, .string s.dn, .int .i64 s.st, .int .i64 s.ph, .int .i64 s.sp, .int .i64 s.tr, .bool s.out, .int .i64 s.at_, .int .i64 s.sk])
  have h4z := H54.out.sz
  clear hb40 H54
  generalize w4.alloc (.cells #[.int .i64 s.id, .string s.dn, .int .i64 s.st, .int .i64 s.ph, .int .i64 s.sp, .int .i64 s.tr, .bool s.out, .int .i64 s.at_, .int .i64 s.sk] 49) = V at *
  obtain ⟨b12, hb12⟩ : ∃ b12, b12 = w4.heap.size := ⟨_, rfl⟩
  rw [← hb12] at HBS h4z ⊢
  clear hb12
  have hbl := HBS.out.lt
  go_cut [13] (fun v13 wc => ∃ b13 : Nat, v13 = .pointer (some ⟨b13, 0, none⟩) ∧ Hid (Below V.heap.size V wc ∧ Box wc b13 33 #[.string d.nm, .int .i64 d.dl, .slice d.A d.n d.c] ∧ V.heap.size ≤ b13))
  case first =>
    have hh5 := H55.out.sz
    obtain ⟨qd, od, hAD, hqd, hdc⟩ := H55.out.here.hD j d HDD.out
    have hjl : (j : Int) < (x.nD : Int) := by have := HX.out.lD; have h1 := El.at_lt HDD.out; omega
    have z0 : ∀ u, Below V.heap.size V u → u.cell? ⟨w.heap.size, 0, none⟩ = some (.slice (some ⟨qd, od, none⟩) x.nD x.cD) := fun u H => by rw [← hAD]; exact (H.cell (p := ⟨w.heap.size, 0, none⟩) (show w.heap.size < V.heap.size by omega)).trans (H55.out.x3.cell 0)
    have z1 : ∀ u, Below V.heap.size V u → u.cell? ⟨w.heap.size, 1, none⟩ = some (.slice x.AS x.nS x.cS) := fun u H => (H.cell (p := ⟨w.heap.size, 1, none⟩) (show w.heap.size < V.heap.size by omega)).trans (H55.out.x3.cell 1)
    have z2 : ∀ u, Below V.heap.size V u → u.cell? ⟨w.heap.size, 2, none⟩ = some (.int .i64 x.nx) := fun u H => (H.cell (p := ⟨w.heap.size, 2, none⟩) (show w.heap.size < V.heap.size by omega)).trans (H55.out.x3.cell 2)
    have y1 : ∀ u, Below V.heap.size V u → u.cell? ⟨b12, 1, none⟩ = some (.string s.dn) := fun u H => (H.cell (p := ⟨b12, 1, none⟩) hbl).trans (HBS.out.cell 1)
    have u0 : ∀ u, Below V.heap.size V u → u.cell? ⟨qd, od + j * 3, none⟩ = some (.string d.nm) := fun u H => (H.cell (p := ⟨qd, od + j * 3, none⟩) hqd).trans (hdc 0 _ rfl)
    have u1 : ∀ u, Below V.heap.size V u → u.cell? ⟨qd, od + j * 3 + 1, none⟩ = some (.int .i64 d.dl) := fun u H => (H.cell (p := ⟨qd, od + j * 3 + 1, none⟩) hqd).trans (hdc 1 _ rfl)
    have u2 : ∀ u, Below V.heap.size V u → u.cell? ⟨qd, od + j * 3 + 2, none⟩ = some (.slice d.A d.n d.c) := fun u H => (H.cell (p := ⟨qd, od + j * 3 + 2, none⟩) hqd).trans (hdc 2 _ rfl)
    have HCD : Hid (∀ W, Below V.heap.size V W → Calls Tryz.prog 11 #[.agg #[.slice (some ⟨qd, od, none⟩) x.nD x.cD, .slice x.AS x.nS x.cS, .int .i64 x.nx], .string s.dn] W fun e w' => e = .returned (.int .i64 (j : Int)) ∧ Made W w') := Lib.hid (fun W hW => by
      rw [← hAD]
      have := HFX.out W (H55.out.bel.trans (hW.mono H55.out.bel.size))
      exact this)
    clear hAD hqd hdc hh5
    refine wp_region_held_drew (S := fun u => Below V.heap.size V u) (by kernel_rfl) (Below.drew (Below.refl _ V)) (fun hHeld => ?_)
    refine Un.tk 0 150 rfl ?_
    refine Un.tk 1 151 rfl ?_
    refine Un.tk 2 152 rfl ?_
    refine Un.tk 3 153 rfl ?_
    refine Un.tk 4 154 rfl ?_
    have HU0 : Hid (Below V.heap.size V V.drew) := Lib.hid hHeld
    clear hHeld
    generalize V.drew = U0 at *
    have hu0 := HU0.out
    have hu0z := HU0.out.size
    refine wpAnyH_ready (rs := [5, 8]) (by decide +kernel) (by simp) ?_
    refine AllReadyH.cons (o := ⟨some 155, _, _, _, _, _⟩) rfl (fun K hK => ?_) (AllReadyH.cons (o := ⟨some 13, _, _, _, _, _⟩) rfl (fun K hK => ?_) AllReadyH.nil)
    · go_simp
      (with_reducible refine (HCD.out _ hu0).mono ?_)
      rintro e w5 ⟨rfl, hm5⟩
      have hm5b : Below (U0).heap.size (U0) w5 := hm5.below
      have hb5 : Below V.heap.size V w5 := hu0.trans (hm5b.mono hu0.size)
      clear hm5
      go_wp2_with fail
      refine hK.out _ _ ?_ (fun hHeld => ?_)
      · exact hb5
      clear hK K
      (try simp only [Act.put])
      refine Un.tk 6 156 rfl ?_
      refine Un.tk 7 157 rfl ?_
      refine wpAnyH_ready (rs := [8]) (by decide +kernel) (by simp) ?_
      refine AllReadyH.cons (o := ⟨some 13, _, _, _, _, _⟩) rfl (fun K hK => ?_) AllReadyH.nil
      go_simp
      have hb6 := hb5.alloc hb5.size (.cells #[.string ⟨#[]⟩, .int .i64 0, .slice none 0 0] 33)
      have hx6 := Box.new w5 33 #[.string ⟨#[]⟩, .int .i64 0, .slice none 0 0]
      have hz6 := hb5.size
      refine hK.out _ _ ?_ (fun hHeld => ?_)
      · exact hb6
      clear hK K
      (try simp only [Act.put])
      have HKP : Hid (Below V.heap.size V ((w5.alloc (.cells #[.string ⟨#[]⟩, .int .i64 0, .slice none 0 0] 33)).setRow w5.heap.size #[.string d.nm, .int .i64 d.dl, .slice d.A d.n d.c]) ∧ Box ((w5.alloc (.cells #[.string ⟨#[]⟩, .int .i64 0, .slice none 0 0] 33)).setRow w5.heap.size #[.string d.nm, .int .i64 d.dl, .slice d.A d.n d.c]) w5.heap.size 33 #[.string d.nm, .int .i64 d.dl, .slice d.A d.n d.c] ∧ V.heap.size ≤ w5.heap.size) := Lib.hid ⟨Sa.below_row hb6 (by omega) _, Sa.box_row hx6 _, by omega⟩
      refine Sa.st1 9 33 _ _ rfl w5.heap.size 33 #[.string ⟨#[]⟩, .int .i64 0, .slice none 0 0] #[.string d.nm, .int .i64 d.dl, .slice d.A d.n d.c] rfl rfl hx6 (sizeD1 d) rfl (oneD1 d) HKP.out.1 (fun hHeld => ?_)
      refine wpAnyH_done (by kernel_rfl) ?_ _
      go_wp2
      go_meet
      exact ⟨w5.heap.size, rfl, HKP⟩
    · go_simp
      have hb6 := hu0.alloc hu0z (.cells #[.string ⟨#[]⟩, .int .i64 0, .slice none 0 0] 33)
      have hx6 := Box.new U0 33 #[.string ⟨#[]⟩, .int .i64 0, .slice none 0 0]
      refine hK.out _ _ ?_ (fun hHeld => ?_)
      · exact hb6
      clear hK K
      (try simp only [Act.put])
      refine wpAnyH_ready (rs := [5]) (by decide +kernel) (by simp) ?_
      refine AllReadyH.cons (o := ⟨some 155, _, _, _, _, _⟩) rfl (fun K hK => ?_) AllReadyH.nil
      go_simp
      (with_reducible refine (HCD.out _ hb6).mono ?_)
      rintro e w5 ⟨rfl, hm5⟩
      have hm5b : Below (U0.alloc (.cells #[.string ⟨#[]⟩, .int .i64 0, .slice none 0 0] 33)).heap.size (U0.alloc (.cells #[.string ⟨#[]⟩, .int .i64 0, .slice none 0 0] 33)) w5 := hm5.below
      have hb5 : Below V.heap.size V w5 := hb6.trans (hm5b.mono hb6.size)
      clear hm5
      go_wp2_with fail
      refine hK.out _ _ ?_ (fun hHeld => ?_)
      · exact hb5
      clear hK K
      (try simp only [Act.put])
      have hx7 : Box w5 U0.heap.size 33 #[.string ⟨#[]⟩, .int .i64 0, .slice none 0 0] := hx6.below hm5b (by simp)
      refine Un.tk 6 156 rfl ?_
      refine Un.tk 7 157 rfl ?_
      have HKP : Hid (Below V.heap.size V ((w5).setRow U0.heap.size #[.string d.nm, .int .i64 d.dl, .slice d.A d.n d.c]) ∧ Box ((w5).setRow U0.heap.size #[.string d.nm, .int .i64 d.dl, .slice d.A d.n d.c]) U0.heap.size 33 #[.string d.nm, .int .i64 d.dl, .slice d.A d.n d.c] ∧ V.heap.size ≤ U0.heap.size) := Lib.hid ⟨Sa.below_row hb5 (by omega) _, Sa.box_row hx7 _, by omega⟩
      refine Sa.st1 9 33 _ _ rfl U0.heap.size 33 #[.string ⟨#[]⟩, .int .i64 0, .slice none 0 0] #[.string d.nm, .int .i64 d.dl, .slice d.A d.n d.c] rfl rfl hx7 (sizeD1 d) rfl (oneD1 d) HKP.out.1 (fun hHeld => ?_)
      refine wpAnyH_done (by kernel_rfl) ?_ _
      go_wp2
      go_meet
      exact ⟨U0.heap.size, rfl, HKP⟩
  case rest =>
    obtain ⟨b13, rfl, HC⟩ := hcut
    have H57 := Lib.hid (H55.out.on HC.out.1)
    have HS7 := Lib.hid (HBS.out.below HC.out.1 hbl)
    have HD7 := Lib.hid HC.out.2.1
    have hb13 := HC.out.2.2
    clear HC H55 HBS
    generalize wc = W7 at *
    have hh5 := H57.out.sz
    obtain ⟨xa7, xb7, xc7⟩ := H57.out.cells
    obtain ⟨v7a, v7b, v7c, v7d, v7e, v7f, v7g, v7h, v7i, v7j, v7k, v7l⟩ := evc H57.out.v4
    obtain ⟨g70, g71, g72, g73, g74, g75, g76, g77, g78⟩ := sgcells HS7.out
    obtain ⟨p70, p71, p72⟩ := dxcells HD7.out
    have hkk := HK.out
    by_cases k10 : v.k = 10
    · clear hkk
      have hkk := k10
      clear k10
      cases ho : Sa.overB s with
      | false =>
        as_aux_lemma =>
          have HF : Hid (doS x.st v lim = (x.st, cm0, 9)) := Lib.hid (by unfold doS; rw [if_neg (by rw [HG.out]; simp), if_neg (by omega), if_neg (by omega), if_pos hkk, forgetS_live HFI.out HS.out ho])
          have HOV := Lib.hid (fun W => Sa.rover_any s W)
          rw [ho] at HOV
          have e2 : (v.k == 2) = false := by simp; omega
          have e3 : (v.k == 3) = false := by simp; omega
          have e10 : (v.k == 10) = true := by simp; omega
          clear hkk ho
          go_upto_region 44 with (first
            | (go_at_call 27; (with_reducible refine (HOV.out _).mono ?_); rintro e w8 ⟨rfl, hmm⟩; have hmw8 := hmm.below; have H58 := Lib.hid (H57.out.on hmw8); have HS8 := Lib.hid (HS7.out.below hmw8 HS7.out.lt); have HD8 := Lib.hid (HD7.out.below hmw8 HD7.out.lt); obtain ⟨xa8, xb8, xc8⟩ := H58.out.cells; obtain ⟨v8a, v8b, v8c, v8d, v8e, v8f, v8g, v8h, v8i, v8j, v8k, v8l⟩ := evc H58.out.v4; obtain ⟨g80, g81, g82, g83, g84, g85, g86, g87, g88⟩ := sgcells HS8.out; obtain ⟨p80, p81, p82⟩ := dxcells HD8.out; clear hmm hmw8))
          clear xa7 xb7 xc7 v7a v7b v7c v7d v7e v7f v7g v7h v7i v7j v7k v7l g70 g71 g72 g73 g74 g75 g76 g77 g78 p70 p71 p72
          clear xa8 xb8 xc8 v8a v8b v8c v8d v8e v8f v8g v8h v8i v8j v8k v8l g80 g81 g82 g83 g84 g85 g86 g87 g88 p80 p81 p82
          have HSS := Lib.hid (rs_start H58.out)
          obtain ⟨z0, z1, z2, yc0, yc1, yc2, yc3, yc4, yc5⟩ := rs_cells w x cm0
          refine wp_region_held_drew (S := RS w x cm0) (by kernel_rfl) HSS.out (fun hHeld => ?_)
          refine Un.tk 0 215 rfl ?_
          refine Un.tk 1 216 rfl ?_
          have HS6 := Lib.hid (rs_far HSS.out (p := w.heap.size + 2) (by omega) (by omega) x.arr)
          refine Sa.st1 2 27 _ _ rfl (w.heap.size + 2) 27 #[.slice none 0 0, .slice none 0 0, .int .i64 0] x.arr rfl rfl H58.out.drew.r6 (sizeT x) rfl (oneT _) HS6.out (fun hHeld => ?_)
          have HS7 := Lib.hid (rs_far HS6.out (p := w.heap.size + 3) (by omega) (by omega) cm0.arr)
          refine Sa.st1 3 37 _ _ rfl (w.heap.size + 3) 37 cm0.arr cm0.arr rfl rfl (Sa.box_far H58.out.drew.r7 (by omega) _) (Sa.sizeC _) rfl (Sa.oneC _) HS7.out (fun hHeld => ?_)
          refine Un.tk 4 8 rfl ?_
          refine wpAnyH_done (by kernel_rfl) ?_ _
          go_wp2
          have HE := five_end H58.out.drew
          refine bodyPost_ret (res_st_cm_tmp rfl _ _ (w.heap.size + 2) (w.heap.size + 3) x cm0 rfl rfl HE.1 HE.2.1) rfl ?_
          refine ⟨x, ?_, HE.2.2.1, ?_, HE.2.2.2⟩
          · rw [HF.out]; rfl
          · rw [HF.out]
      | true =>
        as_aux_lemma =>
          have HF : Hid (doS x.st v lim = (⟨x.dx.map DX.m, x.gs.eraseIdx i, x.nx⟩, cm0, 0)) := Lib.hid (by unfold doS; rw [if_neg (by rw [HG.out]; simp), if_neg (by omega), if_neg (by omega), if_pos hkk, forgetS_over HFI.out HS.out ho])
          have HOV := Lib.hid (fun W => Sa.rover_any s W)
          rw [ho] at HOV
          have e2 : (v.k == 2) = false := by simp; omega
          have e3 : (v.k == 3) = false := by simp; omega
          have e10 : (v.k == 10) = true := by simp; omega
          clear hkk ho
          go_upto_region 45 with (first
            | (go_at_call 27; (with_reducible refine (HOV.out _).mono ?_); rintro e w8 ⟨rfl, hmm⟩; have hmw8 := hmm.below; have H58 := Lib.hid (H57.out.on hmw8); have HS8 := Lib.hid (HS7.out.below hmw8 HS7.out.lt); have HD8 := Lib.hid (HD7.out.below hmw8 HD7.out.lt); obtain ⟨xa8, xb8, xc8⟩ := H58.out.cells; obtain ⟨v8a, v8b, v8c, v8d, v8e, v8f, v8g, v8h, v8i, v8j, v8k, v8l⟩ := evc H58.out.v4; obtain ⟨g80, g81, g82, g83, g84, g85, g86, g87, g88⟩ := sgcells HS8.out; obtain ⟨p80, p81, p82⟩ := dxcells HD8.out; clear hmm hmw8))
          clear xa7 xb7 xc7 v7a v7b v7c v7d v7e v7f v7g v7h v7i v7j v7k v7l g70 g71 g72 g73 g74 g75 g76 g77 g78 p70 p71 p72
          clear xa8 xb8 xc8 v8a v8b v8c v8d v8e v8f v8g v8h v8i v8j v8k v8l g80 g81 g82 g83 g84 g85 g86 g87 g88 p80 p81 p82
          clear H57 HS7 HD7 HS8 HD8
          have H5V := H58
          have HDS := H58
          clear H58
          generalize w8 = V at *
          have hil : i < x.nS := by have := HLS.out; have h1 := El.at_lt HS.out; omega
          have hn3 : x.nS ≤ 1048576 := by have := HB2.out; omega
          have z1 : ∀ u, Below V.heap.size V u → u.cell? ⟨w.heap.size, 1, none⟩ = some (.slice x.AS x.nS x.cS) := fun u H => (H.cell (p := ⟨w.heap.size, 1, none⟩) (show w.heap.size < V.heap.size by have := HDS.out.sz; omega)).trans (HDS.out.x3.cell 1)
          have cut1 := fun u => cutG_to u x.AS x.nS x.cS i (by have := HX.out.cS; omega)
          have cut2 := fun u => cutS_from u x.AS x.nS x.cS (i + 1) (by omega)
          have HE1 : Hid (∀ u, Below V.heap.size V u → Els sgc 9 u V.heap.size x.AS (x.gs.take i)) := Lib.hid (fun u H => (HDS.out.here.hS.below H).take i)
          have HE2 : Hid (∀ u, Below V.heap.size V u → Els sgc 9 u V.heap.size (if x.cS = i + 1 then x.AS else x.AS.map (·.add ((i + 1) * 9))) (x.gs.drop (i + 1))) := Lib.hid (fun u H => els_drop (HDS.out.here.hS.below H) (by have := HX.out.cS; have := HLS.out; omega) (i + 1))
          generalize (if x.cS = i + 1 then x.AS else x.AS.map (·.add ((i + 1) * 9))) = A2 at cut2 HE2
          rw [show (((i + 1 : Nat)) : Int) = (i : Int) + 1 by omega] at cut2
          obtain ⟨i0, hi0, hz0, hz1, hz2⟩ := info_of infoS
          have HL1 : Hid (i = (x.gs.take i).length) := Lib.hid (by rw [List.length_take]; have := HLS.out; omega)
          have HL2 : Hid (x.nS - (i + 1) = (x.gs.drop (i + 1)).length) := Lib.hid (by rw [List.length_drop]; have := HLS.out; omega)
          have HIL := Lib.hid hil
          have hwr : IntKind.i64.wrap ((i : Int) + 1) = (i : Int) + 1 := IntWalk.i64_in _ (by omega)
          clear hil hn3
          refine u_start (S := fun u => Below V.heap.size V u) 13 (by kernel_rfl) (Below.drew (Below.refl _ V)) (fun hHeld => ?_)
          refine Un.utk 1 218 [2, 4, 5, 11, 13] rfl ?_
          refine Un.utk 2 219 [4, 5, 11, 13] rfl ?_
          refine Un.utk 3 220 [4, 5, 11, 13] rfl ?_
          refine Un.utk 4 221 [5, 11, 13] rfl ?_
          refine Un.utk 6 223 [7, 10, 11, 13] rfl ?_
          refine Un.utk 7 224 [10, 11, 13] rfl ?_
          refine Un.utk 8 225 [9, 10, 11, 13] rfl ?_
          refine Un.utk 9 226 [10, 11, 13] rfl ?_
          refine Un.utk 10 227 [11, 13] rfl ?_
          have HU0 : Hid (Below V.heap.size V V.drew ∧ V.drew.heap.size = V.heap.size) := Lib.hid ⟨hHeld, rfl⟩
          clear hHeld
          generalize V.drew = U0 at *
          have hu0 := HU0.out.1
          have hu0z := HU0.out.1.size
          refine u_ready (rs := [0]) (by decide +kernel) (by simp) ?_
          refine u_cons (o := ⟨some 217, _, _, _, _, _⟩) rfl (fun K hK => ?_) u_nil
          go_simp
          have hb1 := hu0.alloc hu0z (.cells #[] 49)
          refine hK.out _ _ (fun _ => hb1) (fun _ => ?_)
          clear hK K
          (try simp only [Act.put, List.setIfInBounds_toArray, List.set_cons_zero, List.set_cons_succ])
          refine u_ready (rs := [5]) (by decide +kernel) (by simp) ?_
          refine u_cons (o := ⟨some 222, _, _, _, _, _⟩) rfl (fun K hK => ?_) u_nil
          refine step_append_els (by decide) sg_len sg_one _ rfl (.tmp 217) (.tmp 221) 25 rfl V.heap.size 49 i0 zeroS 80 Tryz.underlying25 hi0 hz0 hz1 hz2 rfl _ (0) _ rfl (lit_own (e := 49) (k := 9) V.heap.size U0 U0.heap.size rfl hu0z) _ _ _ _ (x.gs.take i) rfl HL1.out (HE1.out _ hb1) (by unfold maxLen; have n1 := HL1.out; have n2 := HL2.out; have n3 := HB2.out; have n4 := HIL.out; (try simp only [List.length_cons, List.length_nil]); omega) (by have n1 := HL1.out; have n2 := HL2.out; have n3 := HB2.out; have n4 := HIL.out; (try simp only [List.length_cons, List.length_nil]); omega) hb1.size ?_
          intro v2 w2 hown2 hg2 hat2
          have hS2 : Below V.heap.size V w2 := hb1.grown hg2 hb1.size (fun j hj => ((lit_own (e := 49) (k := 9) V.heap.size U0 U0.heap.size rfl hu0z).lt j hj).1)
          refine hK.out _ _ (fun _ => hS2) (fun _ => ?_)
          clear hK K
          (try simp only [Act.put, List.setIfInBounds_toArray, List.set_cons_zero, List.set_cons_succ])
          refine u_ready (rs := [11]) (by decide +kernel) (by simp) ?_
          refine u_cons (o := ⟨some 228, _, _, _, _, _⟩) rfl (fun K hK => ?_) u_nil
          refine step_append_els (by decide) sg_len sg_one _ rfl (.tmp 222) (.tmp 227) 25 rfl V.heap.size 49 i0 zeroS 80 Tryz.underlying25 hi0 hz0 hz1 hz2 rfl _ (0 + (x.gs.take i).length) _ rfl hown2 _ _ _ _ (x.gs.drop (i + 1)) rfl HL2.out (HE2.out _ hS2) (by unfold maxLen; have n1 := HL1.out; have n2 := HL2.out; have n3 := HB2.out; have n4 := HIL.out; (try simp only [List.length_cons, List.length_nil]); omega) (by have n1 := HL1.out; have n2 := HL2.out; have n3 := HB2.out; have n4 := HIL.out; (try simp only [List.length_cons, List.length_nil]); omega) hS2.size ?_
          intro v3 w3 hown3 hg3 hat3
          have hS3 : Below V.heap.size V w3 := hS2.grown hg3 hS2.size (fun j hj => (hown2.lt j hj).1)
          refine hK.out _ _ (fun _ => hS3) (fun _ => ?_)
          clear hK K
          (try simp only [Act.put, List.setIfInBounds_toArray, List.set_cons_zero, List.set_cons_succ])
          have hown5 : w3.ownsRow (w.heap.size + 5) 49 9 v3 (x.nS - 1) ((x.gs.eraseIdx i).flatMap sgc) := by
            have h1 := own_low hown3 (show w.heap.size + 5 ≤ V.heap.size from H5V.out.sz)
            rw [← HL1.out, ← HL2.out, show 0 + i + (x.nS - (i + 1)) = x.nS - 1 by have := HIL.out; omega] at h1
            rw [List.eraseIdx_eq_take_drop_succ, List.flatMap_append]
            simpa using h1
          obtain ⟨A4, c4, rfl⟩ := own_form hown5
          have HO4 := Lib.hid hown5
          clear hown5
          have hlen : x.nS - 1 = (x.gs.eraseIdx i).length := by rw [List.length_eraseIdx]; have := HLS.out; have := HIL.out; rw [if_pos (by omega)]; omega
          have H54 := Lib.hid (H5V.out.on hS3)
          have HE4 := Lib.hid (H54.out.sag hlen HO4.out)
          have e40 : w3.cell? ⟨w.heap.size, 1, none⟩ = some (.slice x.AS x.nS x.cS) := H54.out.cells.2.1
          have f40 : w3.frozen? ⟨w.heap.size, 1, none⟩ = false := H54.out.x3.frozen 1
          clear hown3 hg3 hat3 hlen
          refine Un.utk 12 229 [13] rfl ?_ hS3
          refine u_ready (rs := [13]) (by decide +kernel) (by simp) ?_
          refine u_cons (o := ⟨none, _, _, _, _, _⟩) rfl (fun K hK => ?_) u_nil
          go_simp
          refine hK.out _ _ (fun hc => absurd hc (by decide +kernel)) (fun _ => ?_)
          clear hK K
          (try simp only [Act.put, List.setIfInBounds_toArray, List.set_cons_zero, List.set_cons_succ])
          refine u_done (by kernel_rfl) ?_ _
          clear e40 f40 z1 cut1 cut2
          go_upto_region 46 with fail
          generalize w3.setCell ⟨w.heap.size, 1, none⟩ (.slice A4 (x.nS - 1) c4) = W5 at *
          obtain ⟨y4, hy4⟩ : ∃ y4, y4 = x.sag A4 (x.nS - 1) c4 (x.gs.eraseIdx i) := ⟨_, rfl⟩
          rw [← hy4] at HE4
          have HYS : Hid (y4.st = ⟨x.dx.map DX.m, x.gs.eraseIdx i, x.nx⟩) := Lib.hid (by rw [hy4]; rfl)
          clear hy4
          have HSS := Lib.hid (rs_start HE4.out)
          obtain ⟨z0, z1, z2, yc0, yc1, yc2, yc3, yc4, yc5⟩ := rs_cells w y4 cm0
          refine wp_region_held_drew (S := RS w y4 cm0) (by kernel_rfl) HSS.out (fun hHeld => ?_)
          refine Un.tk 0 230 rfl ?_
          refine Un.tk 1 231 rfl ?_
          have HS6 := Lib.hid (rs_far HSS.out (p := w.heap.size + 2) (by omega) (by omega) y4.arr)
          refine Sa.st1 2 27 _ _ rfl (w.heap.size + 2) 27 #[.slice none 0 0, .slice none 0 0, .int .i64 0] y4.arr rfl rfl HE4.out.drew.r6 (sizeT y4) rfl (oneT _) HS6.out (fun hHeld => ?_)
          have HS7 := Lib.hid (rs_far HS6.out (p := w.heap.size + 3) (by omega) (by omega) cm0.arr)
          refine Sa.st1 3 37 _ _ rfl (w.heap.size + 3) 37 cm0.arr cm0.arr rfl rfl (Sa.box_far HE4.out.drew.r7 (by omega) _) (Sa.sizeC _) rfl (Sa.oneC _) HS7.out (fun hHeld => ?_)
          refine Un.tk 4 8 rfl ?_
          refine wpAnyH_done (by kernel_rfl) ?_ _
          go_wp2
          have HE := five_end HE4.out.drew
          refine bodyPost_ret (res_st_cm_tmp rfl _ _ (w.heap.size + 2) (w.heap.size + 3) y4 cm0 rfl rfl HE.1 HE.2.1) rfl ?_
          refine ⟨y4, ?_, HE.2.2.1, ?_, HE.2.2.2⟩
          · rw [HF.out]; rfl
          · rw [HF.out]; exact HYS.out
    · by_cases k2 : v.k = 2
      · clear hkk k10
        have hkk := k2
        clear k2
        by_cases he : Sa.refE d.nm d.dl d.ss s v.now = 0
        · cases hm : Sa.mayB d.nm d.dl d.ss s v.now with
          | false =>
            as_aux_lemma =>
              have hA : actA ⟨d.nm, d.dl, d.ss⟩ s v = (s, cm0, 9) := by
                rw [act_emit hkk]
                unfold Sa.emitA
                rw [if_neg (by rw [he]; simp), if_pos (by unfold Sa.mayB at hm; rw [he] at hm; simpa using hm)]
              have HF : Hid (doS x.st v lim = (x.st, cm0, 9)) := Lib.hid (by rw [do_err HI.out HG.out (by omega) HFI.out HS.out HJ.out HDD.out hA (show (9 : Int) ≠ 0 by decide)])
              clear hA
              have HCK := Lib.hid (fun W (hW : Below w.heap.size w W) => Sa.rcheck14_any d.nm d.dl d.A d.n d.c d.ss s W (HDN.out.on hW) v.now)
              rw [he] at HCK
              have HMY := Lib.hid (fun W (hW : Below w.heap.size w W) => Sa.rmay14_any d.nm d.dl d.A d.n d.c d.ss s W (HDN.out.on hW) v.now)
              rw [hm] at HMY
              have e2 : (v.k == 2) = true := by simp; omega
              clear hkk he hm
              go_upto_region 49 with (first
                | (go_at_call 23; (with_reducible refine (HCK.out _ H57.out.bel).mono ?_); rintro e w8 ⟨rfl, hmw8⟩; have H58 := Lib.hid (H57.out.on hmw8); have HS8 := Lib.hid (HS7.out.below hmw8 HS7.out.lt); have HD8 := Lib.hid (HD7.out.below hmw8 HD7.out.lt); obtain ⟨xa8, xb8, xc8⟩ := H58.out.cells; obtain ⟨v8a, v8b, v8c, v8d, v8e, v8f, v8g, v8h, v8i, v8j, v8k, v8l⟩ := evc H58.out.v4; obtain ⟨g80, g81, g82, g83, g84, g85, g86, g87, g88⟩ := sgcells HS8.out; obtain ⟨p80, p81, p82⟩ := dxcells HD8.out; clear hmw8)
                | (go_at_call 24; (with_reducible refine (HMY.out _ H58.out.bel).mono ?_); rintro e w9 ⟨rfl, hmw9⟩; have H59 := Lib.hid (H58.out.on hmw9); have HS9 := Lib.hid (HS8.out.below hmw9 HS8.out.lt); have HD9 := Lib.hid (HD8.out.below hmw9 HD8.out.lt); obtain ⟨xa9, xb9, xc9⟩ := H59.out.cells; obtain ⟨v9a, v9b, v9c, v9d, v9e, v9f, v9g, v9h, v9i, v9j, v9k, v9l⟩ := evc H59.out.v4; obtain ⟨g90, g91, g92, g93, g94, g95, g96, g97, g98⟩ := sgcells HS9.out; obtain ⟨p90, p91, p92⟩ := dxcells HD9.out; clear hmw9))
              clear xa7 xb7 xc7 v7a v7b v7c v7d v7e v7f v7g v7h v7i v7j v7k v7l g70 g71 g72 g73 g74 g75 g76 g77 g78 p70 p71 p72
              clear xa8 xb8 xc8 v8a v8b v8c v8d v8e v8f v8g v8h v8i v8j v8k v8l g80 g81 g82 g83 g84 g85 g86 g87 g88 p80 p81 p82
              clear xa9 xb9 xc9 v9a v9b v9c v9d v9e v9f v9g v9h v9i v9j v9k v9l g90 g91 g92 g93 g94 g95 g96 g97 g98 p90 p91 p92
              have HSS := Lib.hid (rs_start H59.out)
              obtain ⟨z0, z1, z2, yc0, yc1, yc2, yc3, yc4, yc5⟩ := rs_cells w x cm0
              refine wp_region_held_drew (S := RS w x cm0) (by kernel_rfl) HSS.out (fun hHeld => ?_)
              refine Un.tk 0 240 rfl ?_
              refine Un.tk 1 241 rfl ?_
              refine Un.tk 2 242 rfl ?_
              have HS6 := Lib.hid (rs_far HSS.out (p := w.heap.size + 2) (by omega) (by omega) x.arr)
              refine Sa.st1 3 27 _ _ rfl (w.heap.size + 2) 27 #[.slice none 0 0, .slice none 0 0, .int .i64 0] x.arr rfl rfl H59.out.drew.r6 (sizeT x) rfl (oneT _) HS6.out (fun hHeld => ?_)
              have HS7 := Lib.hid (rs_far HS6.out (p := w.heap.size + 3) (by omega) (by omega) cm0.arr)
              refine Sa.st1 4 37 _ _ rfl (w.heap.size + 3) 37 cm0.arr cm0.arr rfl rfl (Sa.box_far H59.out.drew.r7 (by omega) _) (Sa.sizeC _) rfl (Sa.oneC _) HS7.out (fun hHeld => ?_)
              refine Un.tk 5 8 rfl ?_
              refine wpAnyH_done (by kernel_rfl) ?_ _
              go_wp2
              have HE := five_end H59.out.drew
              refine bodyPost_ret (res_st_cm_tmp rfl _ _ (w.heap.size + 2) (w.heap.size + 3) x cm0 rfl rfl HE.1 HE.2.1) rfl ?_
              refine ⟨x, ?_, HE.2.2.1, ?_, HE.2.2.2⟩
              · rw [HF.out]; rfl
              · rw [HF.out]
          | true =>
            as_aux_lemma =>
              obtain ⟨y, hy⟩ : ∃ y, Sa.emitS d.ss s v.now = y := ⟨_, rfl⟩
              obtain ⟨C, hC⟩ : ∃ C, Sa.emitC d.ss s = C := ⟨_, rfl⟩
              have hA : actA ⟨d.nm, d.dl, d.ss⟩ s v = (y, C, 0) := by
                rw [act_emit hkk]
                unfold Sa.emitA
                rw [if_neg (by rw [he]; simp), if_neg (by unfold Sa.mayB at hm; rw [he] at hm; simpa using hm), hy, hC]
              have HF : Hid (doS x.st v lim = (⟨x.dx.map DX.m, x.gs.set i y, x.nx⟩, C, 0)) := Lib.hid (by rw [do_some HG.out (by omega) HFI.out HS.out HJ.out HDD.out hA])
              clear hA
              have HCK := Lib.hid (fun W (hW : Below w.heap.size w W) => Sa.rcheck14_any d.nm d.dl d.A d.n d.c d.ss s W (HDN.out.on hW) v.now)
              have HMY := Lib.hid (fun W (hW : Below w.heap.size w W) => Sa.rmay14_any d.nm d.dl d.A d.n d.c d.ss s W (HDN.out.on hW) v.now)
              rw [hm] at HMY
              have HEM : Hid (∀ W, Below w.heap.size w W → Calls Tryz.prog 25 #[.agg #[.string d.nm, .int .i64 d.dl, .slice d.A d.n d.c], .agg #[.int .i64 s.id, .string s.dn, .int .i64 s.st, .int .i64 s.ph, .int .i64 s.sp, .int .i64 s.tr, .bool s.out, .int .i64 s.at_, .int .i64 s.sk], .int .i64 v.now] W fun e w' => e = .returned (.tuple #[.agg y.arr, .agg C.arr]) ∧ Below W.heap.size W w') := Lib.hid (fun W hW => by
                have hgd := (Sa.refE_zero he).1
                have htl : s.tr ≤ 1001 := by
                  have h1 : Sa.mayC d.dl d.ss s v.now = true := by
                    have h2 := hm
                    unfold Sa.mayB at h2
                    simp only [Bool.and_eq_true] at h2
                    exact h2.2
                  have h3 := of_decide_eq_true h1
                  have h5 := (Sa.good_plan hgd).2.1
                  omega
                have := Sa.remit_any d.nm d.dl d.A d.n d.c d.ss s W (HDN.out.on hW) v.now hgd htl HTR.out.2
                rw [hy, hC] at this
                exact this)
              rw [he] at HCK
              have e2 : (v.k == 2) = true := by simp; omega
              clear hkk he hm hy hC
              go_upto_region 48 with (first
                | (go_at_call 23; (with_reducible refine (HCK.out _ H57.out.bel).mono ?_); rintro e w8 ⟨rfl, hmw8⟩; have H58 := Lib.hid (H57.out.on hmw8); have HS8 := Lib.hid (HS7.out.below hmw8 HS7.out.lt); have HD8 := Lib.hid (HD7.out.below hmw8 HD7.out.lt); obtain ⟨xa8, xb8, xc8⟩ := H58.out.cells; obtain ⟨v8a, v8b, v8c, v8d, v8e, v8f, v8g, v8h, v8i, v8j, v8k, v8l⟩ := evc H58.out.v4; obtain ⟨g80, g81, g82, g83, g84, g85, g86, g87, g88⟩ := sgcells HS8.out; obtain ⟨p80, p81, p82⟩ := dxcells HD8.out; clear hmw8)
                | (go_at_call 24; (with_reducible refine (HMY.out _ H58.out.bel).mono ?_); rintro e w9 ⟨rfl, hmw9⟩; have H59 := Lib.hid (H58.out.on hmw9); have HS9 := Lib.hid (HS8.out.below hmw9 HS8.out.lt); have HD9 := Lib.hid (HD8.out.below hmw9 HD8.out.lt); obtain ⟨xa9, xb9, xc9⟩ := H59.out.cells; obtain ⟨v9a, v9b, v9c, v9d, v9e, v9f, v9g, v9h, v9i, v9j, v9k, v9l⟩ := evc H59.out.v4; obtain ⟨g90, g91, g92, g93, g94, g95, g96, g97, g98⟩ := sgcells HS9.out; obtain ⟨p90, p91, p92⟩ := dxcells HD9.out; clear hmw9)
                | (go_at_call 25; (with_reducible refine (HEM.out _ H59.out.bel).mono ?_); rintro e w10 ⟨rfl, hmw10⟩; have H5A := Lib.hid (H59.out.on hmw10); have HSA := Lib.hid (HS9.out.below hmw10 HS9.out.lt); have HDA := Lib.hid (HD9.out.below hmw10 HD9.out.lt); obtain ⟨xaA, xbA, xcA⟩ := H5A.out.cells; obtain ⟨vAa, vAb, vAc, vAd, vAe, vAf, vAg, vAh, vAi, vAj, vAk, vAl⟩ := evc H5A.out.v4; obtain ⟨gA0, gA1, gA2, gA3, gA4, gA5, gA6, gA7, gA8⟩ := sgcells HSA.out; obtain ⟨pA0, pA1, pA2⟩ := dxcells HDA.out; clear hmw10)
                | (refine wpList_store_row rfl 49 _ _ rfl b12 49 #[.int .i64 s.id, .string s.dn, .int .i64 s.st, .int .i64 s.ph, .int .i64 s.sp, .int .i64 s.tr, .bool s.out, .int .i64 s.at_, .int .i64 s.sk] y.arr rfl rfl HSA.out (Sa.sizeG _) rfl (Sa.oneG _) ?_)
                | (refine wpList_store_row rfl 37 _ _ rfl (w.heap.size + 4) 37 cm0.arr C.arr rfl rfl (Sa.box_far H5A.out.c9 (show w.heap.size + 4 ≠ b12 by omega) _) (Sa.sizeC _) rfl (Sa.oneC _) ?_))
              clear xa7 xb7 xc7 v7a v7b v7c v7d v7e v7f v7g v7h v7i v7j v7k v7l g70 g71 g72 g73 g74 g75 g76 g77 g78 p70 p71 p72
              clear xa8 xb8 xc8 v8a v8b v8c v8d v8e v8f v8g v8h v8i v8j v8k v8l g80 g81 g82 g83 g84 g85 g86 g87 g88 p80 p81 p82
              clear xa9 xb9 xc9 v9a v9b v9c v9d v9e v9f v9g v9h v9i v9j v9k v9l g90 g91 g92 g93 g94 g95 g96 g97 g98 p90 p91 p92
              clear xaA xbA xcA vAa vAb vAc vAd vAe vAf vAg vAh vAi vAj vAk vAl gA0 gA1 gA2 gA3 gA4 gA5 gA6 gA7 gA8 pA0 pA1 pA2
              have H5T := Lib.hid (H5A.out.turn HX.out h4z y.arr)
              have HST : Hid (Box (w10.setRow b12 y.arr) b12 49 y.arr) := Lib.hid (Sa.box_row HSA.out _)
              have H5T2 := Lib.hid (H5T.out.cmd C)
              have HST2 := Lib.hid (Sa.box_far HST.out (show b12 ≠ w.heap.size + 4 by omega) C.arr)
              clear H5T HST
              have H5T := H5T2
              have HST := HST2
              clear H5T2 HST2
              generalize ((w10.setRow b12 y.arr).setRow (w.heap.size + 4) C.arr) = WT at *
              obtain ⟨t0, t1, t2⟩ := H5T.out.cells
              obtain ⟨r0, r1, r2, r3, r4, r5, r6, r7, r8⟩ := sgcells HST.out
              have HWI : Hid (Calls Tryz.prog 29 #[.slice x.AS x.nS x.cS, .int .i64 (i : Int), .agg #[.int .i64 y.id, .string y.dn, .int .i64 y.st, .int .i64 y.ph, .int .i64 y.sp, .int .i64 y.tr, .bool y.out, .int .i64 y.at_, .int .i64 y.sk]] WT fun e w' => ∃ (A' : Option Addr) (c' : Nat), e = .returned (.slice A' x.nS c') ∧ w'.ownsRow WT.heap.size 49 9 (.slice A' x.nS c') x.nS ((x.gs.set i y).flatMap sgc) ∧ Below WT.heap.size WT w') := Lib.hid (rwith_any x.AS x.nS x.cS x.gs i y WT H5T.out.here.hS HLS.out (by have := HB2.out; omega) (by have := HLS.out; have h1 := El.at_lt HS.out; omega))
              go_upto_region 49 with (first | (go_at_call 29; (with_reducible refine HWI.out.mono ?_); rintro e wz ⟨A4, c4, rfl, hown4, hb4⟩; have HO4 := Lib.hid (own_low hown4 (show w.heap.size + 5 ≤ WT.heap.size from H5T.out.sz)); have H5Z := Lib.hid (H5T.out.on hb4); have xz1 := H5Z.out.cells.2.1; have fz1 : wz.frozen? ⟨w.heap.size, 1, none⟩ = false := H5Z.out.x3.frozen 1; clear hown4 hb4))
              have HE4 := Lib.hid (H5Z.out.sag (show x.nS = (x.gs.set i y).length by rw [List.length_set]; exact HLS.out) HO4.out)
              clear xz1 fz1 HWI
              generalize wz.setCell ⟨w.heap.size, 1, none⟩ (.slice A4 x.nS c4) = W9 at *
              obtain ⟨y4, hy4⟩ : ∃ y4, y4 = x.sag A4 x.nS c4 (x.gs.set i y) := ⟨_, rfl⟩
              rw [← hy4] at HE4
              have HYS : Hid (y4.st = ⟨x.dx.map DX.m, x.gs.set i y, x.nx⟩) := Lib.hid (by rw [hy4]; rfl)
              clear hy4
              have HSS := Lib.hid (rs_start HE4.out)
              obtain ⟨z0, z1, z2, yc0, yc1, yc2, yc3, yc4, yc5⟩ := rs_cells w y4 C
              refine wp_region_held_drew (S := RS w y4 C) (by kernel_rfl) HSS.out (fun hHeld => ?_)
              refine Un.tk 0 240 rfl ?_
              refine Un.tk 1 241 rfl ?_
              refine Un.tk 2 242 rfl ?_
              have HS6 := Lib.hid (rs_far HSS.out (p := w.heap.size + 2) (by omega) (by omega) y4.arr)
              refine Sa.st1 3 27 _ _ rfl (w.heap.size + 2) 27 #[.slice none 0 0, .slice none 0 0, .int .i64 0] y4.arr rfl rfl HE4.out.drew.r6 (sizeT y4) rfl (oneT _) HS6.out (fun hHeld => ?_)
              have HS7 := Lib.hid (rs_far HS6.out (p := w.heap.size + 3) (by omega) (by omega) C.arr)
              refine Sa.st1 4 37 _ _ rfl (w.heap.size + 3) 37 cm0.arr C.arr rfl rfl (Sa.box_far HE4.out.drew.r7 (by omega) _) (Sa.sizeC _) rfl (Sa.oneC _) HS7.out (fun hHeld => ?_)
              refine Un.tk 5 8 rfl ?_
              refine wpAnyH_done (by kernel_rfl) ?_ _
              go_wp2
              have HE := five_end HE4.out.drew
              refine bodyPost_ret (res_st_cm_tmp rfl _ _ (w.heap.size + 2) (w.heap.size + 3) y4 C rfl rfl HE.1 HE.2.1) rfl ?_
              refine ⟨y4, ?_, HE.2.2.1, ?_, HE.2.2.2⟩
              · rw [HF.out]; rfl
              · rw [HF.out]; exact HYS.out
        · as_aux_lemma =>
            obtain ⟨e, hee⟩ : ∃ e, e = Sa.refE d.nm d.dl d.ss s v.now := ⟨_, rfl⟩
            have hne : e ≠ 0 := by rw [hee]; exact he
            have hA : actA ⟨d.nm, d.dl, d.ss⟩ s v = (s, cm0, e) := by
              rw [act_emit hkk]
              unfold Sa.emitA
              rw [if_pos (by simpa using he), hee]
            have HF : Hid (doS x.st v lim = (x.st, cm0, e)) := Lib.hid (by rw [do_err HI.out HG.out (by omega) HFI.out HS.out HJ.out HDD.out hA hne])
            clear hA he
            have he := hee.symm
            clear hee
            have HCK := Lib.hid (fun W (hW : Below w.heap.size w W) => Sa.rcheck14_any d.nm d.dl d.A d.n d.c d.ss s W (HDN.out.on hW) v.now)
            rw [he] at HCK
            have g0 : (e == 0) = false := by simpa using hne
            have e2 : (v.k == 2) = true := by simp; omega
            clear hkk he hne
            go_upto_region 49 with (first
              | (go_at_call 23; (with_reducible refine (HCK.out _ H57.out.bel).mono ?_); rintro e w8 ⟨rfl, hmw8⟩; have H58 := Lib.hid (H57.out.on hmw8); have HS8 := Lib.hid (HS7.out.below hmw8 HS7.out.lt); have HD8 := Lib.hid (HD7.out.below hmw8 HD7.out.lt); obtain ⟨xa8, xb8, xc8⟩ := H58.out.cells; obtain ⟨v8a, v8b, v8c, v8d, v8e, v8f, v8g, v8h, v8i, v8j, v8k, v8l⟩ := evc H58.out.v4; obtain ⟨g80, g81, g82, g83, g84, g85, g86, g87, g88⟩ := sgcells HS8.out; obtain ⟨p80, p81, p82⟩ := dxcells HD8.out; clear hmw8))
            clear xa7 xb7 xc7 v7a v7b v7c v7d v7e v7f v7g v7h v7i v7j v7k v7l g70 g71 g72 g73 g74 g75 g76 g77 g78 p70 p71 p72
            clear xa8 xb8 xc8 v8a v8b v8c v8d v8e v8f v8g v8h v8i v8j v8k v8l g80 g81 g82 g83 g84 g85 g86 g87 g88 p80 p81 p82
            have HSS := Lib.hid (rs_start H58.out)
            obtain ⟨z0, z1, z2, yc0, yc1, yc2, yc3, yc4, yc5⟩ := rs_cells w x cm0
            refine wp_region_held_drew (S := RS w x cm0) (by kernel_rfl) HSS.out (fun hHeld => ?_)
            refine Un.tk 0 240 rfl ?_
            refine Un.tk 1 241 rfl ?_
            refine Un.tk 2 242 rfl ?_
            have HS6 := Lib.hid (rs_far HSS.out (p := w.heap.size + 2) (by omega) (by omega) x.arr)
            refine Sa.st1 3 27 _ _ rfl (w.heap.size + 2) 27 #[.slice none 0 0, .slice none 0 0, .int .i64 0] x.arr rfl rfl H58.out.drew.r6 (sizeT x) rfl (oneT _) HS6.out (fun hHeld => ?_)
            have HS7 := Lib.hid (rs_far HS6.out (p := w.heap.size + 3) (by omega) (by omega) cm0.arr)
            refine Sa.st1 4 37 _ _ rfl (w.heap.size + 3) 37 cm0.arr cm0.arr rfl rfl (Sa.box_far H58.out.drew.r7 (by omega) _) (Sa.sizeC _) rfl (Sa.oneC _) HS7.out (fun hHeld => ?_)
            refine Un.tk 5 8 rfl ?_
            refine wpAnyH_done (by kernel_rfl) ?_ _
            go_wp2
            have HE := five_end H58.out.drew
            refine bodyPost_ret (res_st_cm_tmp rfl _ _ (w.heap.size + 2) (w.heap.size + 3) x cm0 rfl rfl HE.1 HE.2.1) rfl ?_
            refine ⟨x, ?_, HE.2.2.1, ?_, HE.2.2.2⟩
            · rw [HF.out]; rfl
            · rw [HF.out]
      · by_cases k3 : v.k = 3
        · clear hkk k10 k2
          have hkk := k3
          clear k3
          obtain ⟨y, er, hY⟩ : ∃ y er, Sa.replyA d.nm d.dl d.ss s v.r v.now = (y, er) := ⟨_, _, rfl⟩
          have hA : actA ⟨d.nm, d.dl, d.ss⟩ s v = (y, cm0, er) := by rw [act_reply hkk, hY]
          by_cases hne : er = 0
          · as_aux_lemma =>
              subst hne
              have HF : Hid (doS x.st v lim = (⟨x.dx.map DX.m, x.gs.set i y, x.nx⟩, cm0, 0)) := Lib.hid (by rw [do_some HG.out (by omega) HFI.out HS.out HJ.out HDD.out hA])
              clear hA
              have HRP : Hid (∀ W, Below w.heap.size w W → Calls Tryz.prog 26 #[.agg #[.string d.nm, .int .i64 d.dl, .slice d.A d.n d.c], .agg #[.int .i64 s.id, .string s.dn, .int .i64 s.st, .int .i64 s.ph, .int .i64 s.sp, .int .i64 s.tr, .bool s.out, .int .i64 s.at_, .int .i64 s.sk], .agg #[.int .i64 v.r.sg, .int .i64 v.r.sp, .bool v.r.un, .int .i64 v.r.tr, .bool v.r.good], .int .i64 v.now] W fun e w' => e = .returned (.tuple #[.agg y.arr, .int .i64 0]) ∧ Below W.heap.size W w') := Lib.hid (fun W hW => by
                have := Sa.rreply_any d.nm d.dl d.A d.n d.c d.ss s v.r W (HDN.out.on hW) v.now HTR.out.1
                rw [hY] at this
                exact this)
              have e2 : (v.k == 2) = false := by simp; omega
              have e3 : (v.k == 3) = true := by simp; omega
              clear hkk hY
              go_upto_region 48 with (first
                | (go_at_call 26; (with_reducible refine (HRP.out _ H57.out.bel).mono ?_); rintro e w8 ⟨rfl, hmw8⟩; have H58 := Lib.hid (H57.out.on hmw8); have HS8 := Lib.hid (HS7.out.below hmw8 HS7.out.lt); have HD8 := Lib.hid (HD7.out.below hmw8 HD7.out.lt); obtain ⟨xa8, xb8, xc8⟩ := H58.out.cells; obtain ⟨v8a, v8b, v8c, v8d, v8e, v8f, v8g, v8h, v8i, v8j, v8k, v8l⟩ := evc H58.out.v4; obtain ⟨g80, g81, g82, g83, g84, g85, g86, g87, g88⟩ := sgcells HS8.out; obtain ⟨p80, p81, p82⟩ := dxcells HD8.out; clear hmw8)
                | (refine wpList_store_row rfl 49 _ _ rfl b12 49 #[.int .i64 s.id, .string s.dn, .int .i64 s.st, .int .i64 s.ph, .int .i64 s.sp, .int .i64 s.tr, .bool s.out, .int .i64 s.at_, .int .i64 s.sk] y.arr rfl rfl HS8.out (Sa.sizeG _) rfl (Sa.oneG _) ?_))
              clear xa7 xb7 xc7 v7a v7b v7c v7d v7e v7f v7g v7h v7i v7j v7k v7l g70 g71 g72 g73 g74 g75 g76 g77 g78 p70 p71 p72
              clear xa8 xb8 xc8 v8a v8b v8c v8d v8e v8f v8g v8h v8i v8j v8k v8l g80 g81 g82 g83 g84 g85 g86 g87 g88 p80 p81 p82
              have H5T := Lib.hid (H58.out.turn HX.out h4z y.arr)
              have HST : Hid (Box (w8.setRow b12 y.arr) b12 49 y.arr) := Lib.hid (Sa.box_row HS8.out _)
              generalize (w8.setRow b12 y.arr) = WT at *
              obtain ⟨t0, t1, t2⟩ := H5T.out.cells
              obtain ⟨r0, r1, r2, r3, r4, r5, r6, r7, r8⟩ := sgcells HST.out
              have HWI : Hid (Calls Tryz.prog 29 #[.slice x.AS x.nS x.cS, .int .i64 (i : Int), .agg #[.int .i64 y.id, .string y.dn, .int .i64 y.st, .int .i64 y.ph, .int .i64 y.sp, .int .i64 y.tr, .bool y.out, .int .i64 y.at_, .int .i64 y.sk]] WT fun e w' => ∃ (A' : Option Addr) (c' : Nat), e = .returned (.slice A' x.nS c') ∧ w'.ownsRow WT.heap.size 49 9 (.slice A' x.nS c') x.nS ((x.gs.set i y).flatMap sgc) ∧ Below WT.heap.size WT w') := Lib.hid (rwith_any x.AS x.nS x.cS x.gs i y WT H5T.out.here.hS HLS.out (by have := HB2.out; omega) (by have := HLS.out; have h1 := El.at_lt HS.out; omega))
              go_upto_region 49 with (first | (go_at_call 29; (with_reducible refine HWI.out.mono ?_); rintro e wz ⟨A4, c4, rfl, hown4, hb4⟩; have HO4 := Lib.hid (own_low hown4 (show w.heap.size + 5 ≤ WT.heap.size from H5T.out.sz)); have H5Z := Lib.hid (H5T.out.on hb4); have xz1 := H5Z.out.cells.2.1; have fz1 : wz.frozen? ⟨w.heap.size, 1, none⟩ = false := H5Z.out.x3.frozen 1; clear hown4 hb4))
              have HE4 := Lib.hid (H5Z.out.sag (show x.nS = (x.gs.set i y).length by rw [List.length_set]; exact HLS.out) HO4.out)
              clear xz1 fz1 HWI
              generalize wz.setCell ⟨w.heap.size, 1, none⟩ (.slice A4 x.nS c4) = W9 at *
              obtain ⟨y4, hy4⟩ : ∃ y4, y4 = x.sag A4 x.nS c4 (x.gs.set i y) := ⟨_, rfl⟩
              rw [← hy4] at HE4
              have HYS : Hid (y4.st = ⟨x.dx.map DX.m, x.gs.set i y, x.nx⟩) := Lib.hid (by rw [hy4]; rfl)
              clear hy4
              have HSS := Lib.hid (rs_start HE4.out)
              obtain ⟨z0, z1, z2, yc0, yc1, yc2, yc3, yc4, yc5⟩ := rs_cells w y4 cm0
              refine wp_region_held_drew (S := RS w y4 cm0) (by kernel_rfl) HSS.out (fun hHeld => ?_)
              refine Un.tk 0 240 rfl ?_
              refine Un.tk 1 241 rfl ?_
              refine Un.tk 2 242 rfl ?_
              have HS6 := Lib.hid (rs_far HSS.out (p := w.heap.size + 2) (by omega) (by omega) y4.arr)
              refine Sa.st1 3 27 _ _ rfl (w.heap.size + 2) 27 #[.slice none 0 0, .slice none 0 0, .int .i64 0] y4.arr rfl rfl HE4.out.drew.r6 (sizeT y4) rfl (oneT _) HS6.out (fun hHeld => ?_)
              have HS7 := Lib.hid (rs_far HS6.out (p := w.heap.size + 3) (by omega) (by omega) cm0.arr)
              refine Sa.st1 4 37 _ _ rfl (w.heap.size + 3) 37 cm0.arr cm0.arr rfl rfl (Sa.box_far HE4.out.drew.r7 (by omega) _) (Sa.sizeC _) rfl (Sa.oneC _) HS7.out (fun hHeld => ?_)
              refine Un.tk 5 8 rfl ?_
              refine wpAnyH_done (by kernel_rfl) ?_ _
              go_wp2
              have HE := five_end HE4.out.drew
              refine bodyPost_ret (res_st_cm_tmp rfl _ _ (w.heap.size + 2) (w.heap.size + 3) y4 cm0 rfl rfl HE.1 HE.2.1) rfl ?_
              refine ⟨y4, ?_, HE.2.2.1, ?_, HE.2.2.2⟩
              · rw [HF.out]; rfl
              · rw [HF.out]; exact HYS.out
          · as_aux_lemma =>
              have HF : Hid (doS x.st v lim = (x.st, cm0, er)) := Lib.hid (by rw [do_err HI.out HG.out (by omega) HFI.out HS.out HJ.out HDD.out hA hne])
              clear hA
              have HRP : Hid (∀ W, Below w.heap.size w W → Calls Tryz.prog 26 #[.agg #[.string d.nm, .int .i64 d.dl, .slice d.A d.n d.c], .agg #[.int .i64 s.id, .string s.dn, .int .i64 s.st, .int .i64 s.ph, .int .i64 s.sp, .int .i64 s.tr, .bool s.out, .int .i64 s.at_, .int .i64 s.sk], .agg #[.int .i64 v.r.sg, .int .i64 v.r.sp, .bool v.r.un, .int .i64 v.r.tr, .bool v.r.good], .int .i64 v.now] W fun e w' => e = .returned (.tuple #[.agg y.arr, .int .i64 er]) ∧ Below W.heap.size W w') := Lib.hid (fun W hW => by
                have := Sa.rreply_any d.nm d.dl d.A d.n d.c d.ss s v.r W (HDN.out.on hW) v.now HTR.out.1
                rw [hY] at this
                exact this)
              have g0 : (er == 0) = false := by simpa using hne
              have e2 : (v.k == 2) = false := by simp; omega
              have e3 : (v.k == 3) = true := by simp; omega
              clear hkk hY hne
              go_upto_region 49 with (first
                | (go_at_call 26; (with_reducible refine (HRP.out _ H57.out.bel).mono ?_); rintro e w8 ⟨rfl, hmw8⟩; have H58 := Lib.hid (H57.out.on hmw8); have HS8 := Lib.hid (HS7.out.below hmw8 HS7.out.lt); have HD8 := Lib.hid (HD7.out.below hmw8 HD7.out.lt); obtain ⟨xa8, xb8, xc8⟩ := H58.out.cells; obtain ⟨v8a, v8b, v8c, v8d, v8e, v8f, v8g, v8h, v8i, v8j, v8k, v8l⟩ := evc H58.out.v4; obtain ⟨g80, g81, g82, g83, g84, g85, g86, g87, g88⟩ := sgcells HS8.out; obtain ⟨p80, p81, p82⟩ := dxcells HD8.out; clear hmw8)
                | (refine wpList_store_row rfl 49 _ _ rfl b12 49 #[.int .i64 s.id, .string s.dn, .int .i64 s.st, .int .i64 s.ph, .int .i64 s.sp, .int .i64 s.tr, .bool s.out, .int .i64 s.at_, .int .i64 s.sk] y.arr rfl rfl HS8.out (Sa.sizeG _) rfl (Sa.oneG _) ?_))
              clear xa7 xb7 xc7 v7a v7b v7c v7d v7e v7f v7g v7h v7i v7j v7k v7l g70 g71 g72 g73 g74 g75 g76 g77 g78 p70 p71 p72
              clear xa8 xb8 xc8 v8a v8b v8c v8d v8e v8f v8g v8h v8i v8j v8k v8l g80 g81 g82 g83 g84 g85 g86 g87 g88 p80 p81 p82
              have H5T := Lib.hid (H58.out.turn HX.out h4z y.arr)
              have HST : Hid (Box (w8.setRow b12 y.arr) b12 49 y.arr) := Lib.hid (Sa.box_row HS8.out _)
              generalize (w8.setRow b12 y.arr) = WT at *
              have HSS := Lib.hid (rs_start H5T.out)
              obtain ⟨z0, z1, z2, yc0, yc1, yc2, yc3, yc4, yc5⟩ := rs_cells w x cm0
              refine wp_region_held_drew (S := RS w x cm0) (by kernel_rfl) HSS.out (fun hHeld => ?_)
              refine Un.tk 0 240 rfl ?_
              refine Un.tk 1 241 rfl ?_
              refine Un.tk 2 242 rfl ?_
              have HS6 := Lib.hid (rs_far HSS.out (p := w.heap.size + 2) (by omega) (by omega) x.arr)
              refine Sa.st1 3 27 _ _ rfl (w.heap.size + 2) 27 #[.slice none 0 0, .slice none 0 0, .int .i64 0] x.arr rfl rfl H5T.out.drew.r6 (sizeT x) rfl (oneT _) HS6.out (fun hHeld => ?_)
              have HS7 := Lib.hid (rs_far HS6.out (p := w.heap.size + 3) (by omega) (by omega) cm0.arr)
              refine Sa.st1 4 37 _ _ rfl (w.heap.size + 3) 37 cm0.arr cm0.arr rfl rfl (Sa.box_far H5T.out.drew.r7 (by omega) _) (Sa.sizeC _) rfl (Sa.oneC _) HS7.out (fun hHeld => ?_)
              refine Un.tk 5 8 rfl ?_
              refine wpAnyH_done (by kernel_rfl) ?_ _
              go_wp2
              have HE := five_end H5T.out.drew
              refine bodyPost_ret (res_st_cm_tmp rfl _ _ (w.heap.size + 2) (w.heap.size + 3) x cm0 rfl rfl HE.1 HE.2.1) rfl ?_
              refine ⟨x, ?_, HE.2.2.1, ?_, HE.2.2.2⟩
              · rw [HF.out]; rfl
              · rw [HF.out]
        · have hkl : 4 ≤ v.k ∧ v.k ≤ 9 := by omega
          clear hkk k10 k2 k3
          have hkk := hkl
          clear hkl
          obtain ⟨y, er, hY⟩ : ∃ y er, Sa.numA d.nm d.dl d.ss s (v.k - 4) v.now = (y, er) := ⟨_, _, rfl⟩
          have hA : actA ⟨d.nm, d.dl, d.ss⟩ s v = (y, cm0, er) := by rw [act_num hkk, hY]
          by_cases hne : er = 0
          · as_aux_lemma =>
              subst hne
              have HF : Hid (doS x.st v lim = (⟨x.dx.map DX.m, x.gs.set i y, x.nx⟩, cm0, 0)) := Lib.hid (by rw [do_some HG.out (by omega) HFI.out HS.out HJ.out HDD.out hA])
              clear hA
              have HRP : Hid (∀ W, Below w.heap.size w W → Calls Tryz.prog 28 #[.agg #[.string d.nm, .int .i64 d.dl, .slice d.A d.n d.c], .agg #[.int .i64 s.id, .string s.dn, .int .i64 s.st, .int .i64 s.ph, .int .i64 s.sp, .int .i64 s.tr, .bool s.out, .int .i64 s.at_, .int .i64 s.sk], .int .i64 (v.k - 4), .int .i64 v.now] W fun e w' => e = .returned (.tuple #[.agg y.arr, .int .i64 0]) ∧ Below W.heap.size W w') := Lib.hid (fun W hW => by
                have := Sa.rdo_any d.nm d.dl d.A d.n d.c d.ss s W (HDN.out.on hW) (v.k - 4) v.now HTR.out.1 (by omega)
                rw [hY] at this
                exact this)
              have e2 : (v.k == 2) = false := by simp; omega
              have e3 : (v.k == 3) = false := by simp; omega
              have e10 : (v.k == 10) = false := by simp; omega
              have hk1 := hkk.1
              have hk2 := hkk.2
              clear hkk hY
              go_upto_region 48 with (first
                | (go_at_call 28; (with_reducible refine (HRP.out _ H57.out.bel).mono ?_); rintro e w8 ⟨rfl, hmw8⟩; have H58 := Lib.hid (H57.out.on hmw8); have HS8 := Lib.hid (HS7.out.below hmw8 HS7.out.lt); have HD8 := Lib.hid (HD7.out.below hmw8 HD7.out.lt); obtain ⟨xa8, xb8, xc8⟩ := H58.out.cells; obtain ⟨v8a, v8b, v8c, v8d, v8e, v8f, v8g, v8h, v8i, v8j, v8k, v8l⟩ := evc H58.out.v4; obtain ⟨g80, g81, g82, g83, g84, g85, g86, g87, g88⟩ := sgcells HS8.out; obtain ⟨p80, p81, p82⟩ := dxcells HD8.out; clear hmw8)
                | (refine wpList_store_row rfl 49 _ _ rfl b12 49 #[.int .i64 s.id, .string s.dn, .int .i64 s.st, .int .i64 s.ph, .int .i64 s.sp, .int .i64 s.tr, .bool s.out, .int .i64 s.at_, .int .i64 s.sk] y.arr rfl rfl HS8.out (Sa.sizeG _) rfl (Sa.oneG _) ?_))
              clear xa7 xb7 xc7 v7a v7b v7c v7d v7e v7f v7g v7h v7i v7j v7k v7l g70 g71 g72 g73 g74 g75 g76 g77 g78 p70 p71 p72
              clear xa8 xb8 xc8 v8a v8b v8c v8d v8e v8f v8g v8h v8i v8j v8k v8l g80 g81 g82 g83 g84 g85 g86 g87 g88 p80 p81 p82
              have H5T := Lib.hid (H58.out.turn HX.out h4z y.arr)
              have HST : Hid (Box (w8.setRow b12 y.arr) b12 49 y.arr) := Lib.hid (Sa.box_row HS8.out _)
              generalize (w8.setRow b12 y.arr) = WT at *
              obtain ⟨t0, t1, t2⟩ := H5T.out.cells
              obtain ⟨r0, r1, r2, r3, r4, r5, r6, r7, r8⟩ := sgcells HST.out
              have HWI : Hid (Calls Tryz.prog 29 #[.slice x.AS x.nS x.cS, .int .i64 (i : Int), .agg #[.int .i64 y.id, .string y.dn, .int .i64 y.st, .int .i64 y.ph, .int .i64 y.sp, .int .i64 y.tr, .bool y.out, .int .i64 y.at_, .int .i64 y.sk]] WT fun e w' => ∃ (A' : Option Addr) (c' : Nat), e = .returned (.slice A' x.nS c') ∧ w'.ownsRow WT.heap.size 49 9 (.slice A' x.nS c') x.nS ((x.gs.set i y).flatMap sgc) ∧ Below WT.heap.size WT w') := Lib.hid (rwith_any x.AS x.nS x.cS x.gs i y WT H5T.out.here.hS HLS.out (by have := HB2.out; omega) (by have := HLS.out; have h1 := El.at_lt HS.out; omega))
              go_upto_region 49 with (first | (go_at_call 29; (with_reducible refine HWI.out.mono ?_); rintro e wz ⟨A4, c4, rfl, hown4, hb4⟩; have HO4 := Lib.hid (own_low hown4 (show w.heap.size + 5 ≤ WT.heap.size from H5T.out.sz)); have H5Z := Lib.hid (H5T.out.on hb4); have xz1 := H5Z.out.cells.2.1; have fz1 : wz.frozen? ⟨w.heap.size, 1, none⟩ = false := H5Z.out.x3.frozen 1; clear hown4 hb4))
              have HE4 := Lib.hid (H5Z.out.sag (show x.nS = (x.gs.set i y).length by rw [List.length_set]; exact HLS.out) HO4.out)
              clear xz1 fz1 HWI
              generalize wz.setCell ⟨w.heap.size, 1, none⟩ (.slice A4 x.nS c4) = W9 at *
              obtain ⟨y4, hy4⟩ : ∃ y4, y4 = x.sag A4 x.nS c4 (x.gs.set i y) := ⟨_, rfl⟩
              rw [← hy4] at HE4
              have HYS : Hid (y4.st = ⟨x.dx.map DX.m, x.gs.set i y, x.nx⟩) := Lib.hid (by rw [hy4]; rfl)
              clear hy4
              have HSS := Lib.hid (rs_start HE4.out)
              obtain ⟨z0, z1, z2, yc0, yc1, yc2, yc3, yc4, yc5⟩ := rs_cells w y4 cm0
              refine wp_region_held_drew (S := RS w y4 cm0) (by kernel_rfl) HSS.out (fun hHeld => ?_)
              refine Un.tk 0 240 rfl ?_
              refine Un.tk 1 241 rfl ?_
              refine Un.tk 2 242 rfl ?_
              have HS6 := Lib.hid (rs_far HSS.out (p := w.heap.size + 2) (by omega) (by omega) y4.arr)
              refine Sa.st1 3 27 _ _ rfl (w.heap.size + 2) 27 #[.slice none 0 0, .slice none 0 0, .int .i64 0] y4.arr rfl rfl HE4.out.drew.r6 (sizeT y4) rfl (oneT _) HS6.out (fun hHeld => ?_)
              have HS7 := Lib.hid (rs_far HS6.out (p := w.heap.size + 3) (by omega) (by omega) cm0.arr)
              refine Sa.st1 4 37 _ _ rfl (w.heap.size + 3) 37 cm0.arr cm0.arr rfl rfl (Sa.box_far HE4.out.drew.r7 (by omega) _) (Sa.sizeC _) rfl (Sa.oneC _) HS7.out (fun hHeld => ?_)
              refine Un.tk 5 8 rfl ?_
              refine wpAnyH_done (by kernel_rfl) ?_ _
              go_wp2
              have HE := five_end HE4.out.drew
              refine bodyPost_ret (res_st_cm_tmp rfl _ _ (w.heap.size + 2) (w.heap.size + 3) y4 cm0 rfl rfl HE.1 HE.2.1) rfl ?_
              refine ⟨y4, ?_, HE.2.2.1, ?_, HE.2.2.2⟩
              · rw [HF.out]; rfl
              · rw [HF.out]; exact HYS.out
          · as_aux_lemma =>
              have HF : Hid (doS x.st v lim = (x.st, cm0, er)) := Lib.hid (by rw [do_err HI.out HG.out (by omega) HFI.out HS.out HJ.out HDD.out hA hne])
              clear hA
              have HRP : Hid (∀ W, Below w.heap.size w W → Calls Tryz.prog 28 #[.agg #[.string d.nm, .int .i64 d.dl, .slice d.A d.n d.c], .agg #[.int .i64 s.id, .string s.dn, .int .i64 s.st, .int .i64 s.ph, .int .i64 s.sp, .int .i64 s.tr, .bool s.out, .int .i64 s.at_, .int .i64 s.sk], .int .i64 (v.k - 4), .int .i64 v.now] W fun e w' => e = .returned (.tuple #[.agg y.arr, .int .i64 er]) ∧ Below W.heap.size W w') := Lib.hid (fun W hW => by
                have := Sa.rdo_any d.nm d.dl d.A d.n d.c d.ss s W (HDN.out.on hW) (v.k - 4) v.now HTR.out.1 (by omega)
                rw [hY] at this
                exact this)
              have g0 : (er == 0) = false := by simpa using hne
              have e2 : (v.k == 2) = false := by simp; omega
              have e3 : (v.k == 3) = false := by simp; omega
              have e10 : (v.k == 10) = false := by simp; omega
              have hk1 := hkk.1
              have hk2 := hkk.2
              clear hkk hY hne
              go_upto_region 49 with (first
                | (go_at_call 28; (with_reducible refine (HRP.out _ H57.out.bel).mono ?_); rintro e w8 ⟨rfl, hmw8⟩; have H58 := Lib.hid (H57.out.on hmw8); have HS8 := Lib.hid (HS7.out.below hmw8 HS7.out.lt); have HD8 := Lib.hid (HD7.out.below hmw8 HD7.out.lt); obtain ⟨xa8, xb8, xc8⟩ := H58.out.cells; obtain ⟨v8a, v8b, v8c, v8d, v8e, v8f, v8g, v8h, v8i, v8j, v8k, v8l⟩ := evc H58.out.v4; obtain ⟨g80, g81, g82, g83, g84, g85, g86, g87, g88⟩ := sgcells HS8.out; obtain ⟨p80, p81, p82⟩ := dxcells HD8.out; clear hmw8)
                | (refine wpList_store_row rfl 49 _ _ rfl b12 49 #[.int .i64 s.id, .string s.dn, .int .i64 s.st, .int .i64 s.ph, .int .i64 s.sp, .int .i64 s.tr, .bool s.out, .int .i64 s.at_, .int .i64 s.sk] y.arr rfl rfl HS8.out (Sa.sizeG _) rfl (Sa.oneG _) ?_))
              clear xa7 xb7 xc7 v7a v7b v7c v7d v7e v7f v7g v7h v7i v7j v7k v7l g70 g71 g72 g73 g74 g75 g76 g77 g78 p70 p71 p72
              clear xa8 xb8 xc8 v8a v8b v8c v8d v8e v8f v8g v8h v8i v8j v8k v8l g80 g81 g82 g83 g84 g85 g86 g87 g88 p80 p81 p82
              have H5T := Lib.hid (H58.out.turn HX.out h4z y.arr)
              have HST : Hid (Box (w8.setRow b12 y.arr) b12 49 y.arr) := Lib.hid (Sa.box_row HS8.out _)
              generalize (w8.setRow b12 y.arr) = WT at *
              have HSS := Lib.hid (rs_start H5T.out)
              obtain ⟨z0, z1, z2, yc0, yc1, yc2, yc3, yc4, yc5⟩ := rs_cells w x cm0
              refine wp_region_held_drew (S := RS w x cm0) (by kernel_rfl) HSS.out (fun hHeld => ?_)
              refine Un.tk 0 240 rfl ?_
              refine Un.tk 1 241 rfl ?_
              refine Un.tk 2 242 rfl ?_
              have HS6 := Lib.hid (rs_far HSS.out (p := w.heap.size + 2) (by omega) (by omega) x.arr)
              refine Sa.st1 3 27 _ _ rfl (w.heap.size + 2) 27 #[.slice none 0 0, .slice none 0 0, .int .i64 0] x.arr rfl rfl H5T.out.drew.r6 (sizeT x) rfl (oneT _) HS6.out (fun hHeld => ?_)
              have HS7 := Lib.hid (rs_far HS6.out (p := w.heap.size + 3) (by omega) (by omega) cm0.arr)
              refine Sa.st1 4 37 _ _ rfl (w.heap.size + 3) 37 cm0.arr cm0.arr rfl rfl (Sa.box_far H5T.out.drew.r7 (by omega) _) (Sa.sizeC _) rfl (Sa.oneC _) HS7.out (fun hHeld => ?_)
              refine Un.tk 5 8 rfl ?_
              refine wpAnyH_done (by kernel_rfl) ?_ _
              go_wp2
              have HE := five_end H5T.out.drew
              refine bodyPost_ret (res_st_cm_tmp rfl _ _ (w.heap.size + 2) (w.heap.size + 3) x cm0 rfl rfl HE.1 HE.2.1) rfl ?_
              refine ⟨x, ?_, HE.2.2.1, ?_, HE.2.2.2⟩
              · rw [HF.out]; rfl
              · rw [HF.out]
theorem rdo_any16 : Calls Tryz.prog 8 #[.agg #[.slice x.AD x.nD x.cD, .slice x.AS x.nS x.cS, .int .i64 x.nx], .agg #[.int .i64 v.k, .int .i64 v.now, .int .i64 v.sg, .string v.nm, .int .i64 v.r.sg, .int .i64 v.r.sp, .bool v.r.un, .int .i64 v.r.tr, .bool v.r.good, .string v.dn, .int .i64 v.dl, .slice A n c], .int .i64 lim] w (RDoIs w x v lim) := by
  by_cases hg : goodE v = true
  · have hk := (good_ev_parts hg).1
    by_cases k0 : v.k = 0
    · rcases findX_cases x.dx v.dn with hf | ⟨i, _, hf, _⟩
      · by_cases hl : 64 ≤ x.nD
        · exact rdo_full x v A n c lim w hx hi hb2 hv h0 ht hg k0 hf hl
        · exact rdo_put x v A n c lim w hx hi hb2 hv h0 ht hg k0 hf hl
      · exact rdo_there x v A n c lim w hx hi hb2 hv h0 ht hg k0 hf
    · by_cases k1 : v.k = 1
      · rcases findX_cases x.dx v.nm with hf | ⟨i, _, hf, _⟩
        · exact rdo_st_none x v A n c lim w hx hi hb2 hv ht hg k1 hf
        · by_cases hn : v.sg = x.nx
          · by_cases hl : lim ≤ (x.nS : Int)
            · exact rdo_st_full x v A n c lim w hx hi hb2 hv ht hg k1 hf hn hl
            · by_cases hm : 1125899906842624 ≤ x.nx
              · exact rdo_st_end x v A n c lim w hx hi hb2 hv ht hg k1 hf hn hl hm
              · exact rdo_st_yes x v A n c lim w hx hi hb2 hv ht hg k1 hf hn hl hm
          · exact rdo_st_arg x v A n c lim w hx hi hb2 hv ht hg k1 hf hn
      · rcases findS_cases x.gs v.sg with hf | ⟨i, s, hf, hs, _, _⟩
        · refine rdo_gone x v A n c lim w hx hi hb2 hv ht hg (by omega) hf ?_
          by_cases k10 : v.k = 10
          · unfold doS
            rw [if_neg (by rw [hg]; simp), if_neg k0, if_neg k1, if_pos k10, forgetS_none hf]
          · rw [do_act_is hg (by omega), actS_none hf]
        · obtain ⟨j, d, hj, hd⟩ := found_of hi hs
          exact rdo_acts x v A n c lim w hx hi hb2 hv ht hg (by omega) hf hs hj hd
  · exact rdo_bad x v A n c lim w hx hi hb2 hv ht (by simpa using hg)
end
end Go.Proofs.YteejocnogpaifaaGreatDoor.Tt
