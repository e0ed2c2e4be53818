/-
  What act of package state answers: a saga does what an event says, in its place in the row.
  Conditions: the state lies in a block and rows of its own, and is right; the kind is one of layer 14's.
-/
import Derived.Test.YteejocnogpaifaaGreatDoorMrg1
import Derived.Test.YteejocnogpaifaaGreatDoorStaActed
import Derived.Test.YteejocnogpaifaaGreatDoorStaStart
namespace Go.Proofs.YteejocnogpaifaaGreatDoor.Tt
open Go.RowKit
open Go.Proofs.YteejocnogpaifaaGreatDoor.El
open Go.Proofs.YteejocnogpaifaaGreatDoor.Df
open Go.Proofs.YteejocnogpaifaaGreatDoor.Bo (P Made ret_int ret_bool)
open Go.Proofs.YteejocnogpaifaaGreatDoor.Sa (Sg Cm Rp cm0)
open Go.Proofs.YteejocnogpaifaaGreatDoor.Co (Ev Mod evc)

theorem below_al2 (w : World) (o o' : Obj) : Below w.heap.size w ((w.alloc o).alloc o') := (below_al w o).trans ((below_al (w.alloc o) o').mono (by simp))
theorem box_al2 (w : World) (t : TypeId) (cs : Array Value) (o : Obj) : Box ((w.alloc (.cells cs t)).alloc o) w.heap.size t cs := (Box.new w t cs).below (below_al _ o) (by simp)
theorem box_new2 (w : World) (o : Obj) (t : TypeId) (cs : Array Value) : Box ((w.alloc o).alloc (.cells cs t)) (w.heap.size + 1) t cs := by
  have := Box.new (w.alloc o) t cs
  simpa using this
theorem res_cm_tmp {fn : Func} {p u : Tmp} (h : fn.results = #[.cell p 37, .tmp u]) (tmps : Array Value) (w : World) (g : Nat) (s : Cm)
    (hp : tmps.getD p undef = .pointer (some ⟨g, 0, none⟩)) (hg : Box w g 37 s.arr) :
    (results fn tmps).run Tryz.prog w = .ok (.tuple #[.agg s.arr, tmps.getD u undef]) w := by
  rw [results_cell_tmp h, hp]
  simp only [asAddr, Sem.run_pure, Result.andThen_ok, run_loadVar_row w g _ 37 _ _ _ hg Tryz.underlying37 rfl (Sa.sizeC s)]
theorem cm_cells {w : World} {g : Nat} {c : Cm} (h : Box w g 37 c.arr) : w.cell? ⟨g, 0, none⟩ = some (.int .i64 c.sg) ∧ w.cell? ⟨g, 1, none⟩ = some (.int .i64 c.sp) ∧ w.cell? ⟨g, 2, none⟩ = some (.bool c.un) ∧ w.cell? ⟨g, 3, none⟩ = some (.int .i64 c.tr) ∧ w.cell? ⟨g, 4, none⟩ = some (.string c.pt) ∧ w.cell? ⟨g, 5, none⟩ = some (.string c.key) :=
  ⟨h.cell 0, h.cell 1, h.cell 2, h.cell 3, h.cell 4, h.cell 5⟩
section
variable {w : World} {g R b : Nat} {x : SV}
/-- a block of another type turns -/
theorem here_off {t : TypeId} {cs : Array Value} (h : Here w g R x) (hb : Box w b t cs) (h1 : t ≠ 27) (h2 : t ≠ 33) (h3 : t ≠ 49) (h4 : t ≠ 54) (cs' : Array Value) : Here (w.setRow b cs') g R x := by
  have hs : ∀ {e : TypeId} {k n : Nat} {v : Value} {xs : List Value}, t ≠ e → w.ownsRow R e k v n xs → (w.setRow b cs').ownsRow R e k v n xs := fun he ho =>
    own_stay ho fun i hi => setRow_other w b i cs' fun e => by
      obtain ⟨_, cur, hc⟩ := own_blk ho hi
      subst e
      exact (hb.apart hc he) rfl
  exact ⟨(setRow_other w b g cs' fun e => by subst e; exact (hb.apart h.box h1) rfl).trans h.box, ⟨h.own.lD, h.own.lS, hs h2 h.own.oD, hs h3 h.own.oS, fun d hd => ⟨(h.own.oT d hd).1, (h.own.oT d hd).2.1, hs h4 (h.own.oT d hd).2.2⟩⟩, h.lt, by rw [setRow_size]; exact h.le⟩
/-- a saga turns in its row -/
theorem here_put {q i : Nat} {cur : Array Value} (h : Here w g R x) (hA : x.AS = some ⟨q, 0, none⟩) (hb : Box w q 49 cur) (hi : i < x.nS) (s : Sg) :
    Here (w.setRow q (spl cur (i * 9) (sgc s))) g R ⟨x.AD, x.nD, x.cD, x.AS, x.nS, x.cS, x.nx, x.dx, x.gs.set i s⟩ := by
  have ho := h.own.oS
  rw [hA] at ho
  have hqR : R ≤ q := (own_blk ho rfl).1
  have hs : ∀ {e : TypeId} {k n : Nat} {v : Value} {xs : List Value}, 49 ≠ e → w.ownsRow R e k v n xs → (w.setRow q (spl cur (i * 9) (sgc s))).ownsRow R e k v n xs := fun he ho =>
    own_stay ho fun i hi => setRow_other w q i _ fun e => by
      obtain ⟨_, cur, hc⟩ := own_blk ho hi
      subst e
      exact (hb.apart hc he) rfl
  refine ⟨(setRow_other w q g _ (by have := h.lt; omega)).trans h.box, ⟨h.own.lD, by rw [List.length_set]; exact h.own.lS, hs (by decide) h.own.oD, ?_, fun d hd => ⟨(h.own.oT d hd).1, (h.own.oT d hd).2.1, hs (by decide) (h.own.oT d hd).2.2⟩⟩, h.lt, by rw [setRow_size]; exact h.le⟩
  have := own_put sg_len ho hb (i := i) (a := s) (by have := h.own.lS; omega) h.own.lS.symm
  rw [← hA] at this
  exact this
end
/-- what act answers -/
def ActIs (w : World) (g R : Nat) (x : SV) (v : Ev) (e : Ending) (w' : World) : Prop :=
  ∃ y : SV, e = .returned (.tuple #[.agg (actS x.st v).2.1.arr, .int .i64 (actS x.st v).2.2]) ∧ Here w' g R y ∧ y.st = (actS x.st v).1 ∧ Foot g R w w'
theorem actS_none {x : SV} {v : Ev} (h : findS x.gs v.sg = -1) : actS x.st v = (x.st, cm0, 7) := by
  unfold actS
  rw [if_pos (by show findS x.gs v.sg < 0; omega)]
theorem actS_some {x : SV} {v : Ev} {i j : Nat} {s : Sg} {d : DX} (h : findS x.gs v.sg = (i : Int)) (hs : x.gs[i]? = some s) (hj : findX x.dx s.dn = (j : Int)) (hd : x.dx[j]? = some d) :
    actS x.st v = (⟨x.dx.map DX.m, x.gs.set i (actA ⟨d.nm, d.dl, d.ss⟩ s v).1, x.nx⟩, (actA ⟨d.nm, d.dl, d.ss⟩ s v).2.1, (actA ⟨d.nm, d.dl, d.ss⟩ s v).2.2) := by
  unfold actS
  rw [if_neg (by show ¬ findS x.gs v.sg < 0; omega)]
  show (let s := sgOf x.gs (findS x.gs v.sg); let r := actA (dmOf (x.dx.map DX.m) (findD (x.dx.map DX.m) s.dn)) s v; ((⟨x.dx.map DX.m, x.gs.set (findS x.gs v.sg).toNat r.1, x.nx⟩ : Ms), r.2.1, r.2.2)) = _
  rw [h, sgOf_is hs, Int.toNat_natCast]
  have hf : findD (x.dx.map DX.m) s.dn = (j : Int) := (findX_is x.dx s.dn).trans hj
  have hm : dmOf (x.dx.map DX.m) (j : Int) = ⟨d.nm, d.dl, d.ss⟩ := dmOf_is (by rw [List.getElem?_map, hd]; rfl)
  dsimp only
  rw [hf, hm]
theorem found_of {x : SV} (hi : Inv x.st) {i : Nat} {s : Sg} (hs : x.gs[i]? = some s) : ∃ (j : Nat) (d : DX), findX x.dx s.dn = (j : Int) ∧ x.dx[j]? = some d := by
  rcases findX_cases x.dx s.dn with h | ⟨j, d, h, hd, _⟩
  · have hk := hi.ok.gs s (List.mem_of_getElem? hs)
    obtain ⟨k, h1, _⟩ := OkS.at_ hi.ok.ds.rise hk
    have h2 : findD x.st.ds s.dn = -1 := (findX_is x.dx s.dn).trans h
    omega
  · exact ⟨j, d, h, hd⟩
set_option maxHeartbeats 4000000 in
set_option maxRecDepth 100000 in
theorem act_any (x : SV) (g R : Nat) (v : Ev) (A : Option Addr) (n c : Nat) (w : World) (h : Here w g R x) (hb : x.nD ≤ 1000000) (hb2 : x.nS ≤ 1000000000) (hi : Inv x.st) (ht : Df.Tab w) (hk : 2 ≤ v.k ∧ v.k ≤ 9) :
    Calls Tryz.prog 20 #[.pointer (some ⟨g, 0, none⟩), .agg #[.int .i64 v.k, .int .i64 v.now, .int .i64 v.sg, .string v.nm, .int .i64 v.r.sg, .int .i64 v.r.sp, .bool v.r.un, .int .i64 v.r.tr, .bool v.r.good, .string v.dn, .int .i64 v.dl, .slice A n c]] w (ActIs w g R x v) := by
  rcases findS_cases x.gs v.sg with hf | ⟨i, s, hf, hs, hsi, hil⟩
  · have hB0 : Below w.heap.size w ((w.alloc (.cells #[.int .i64 v.k, .int .i64 v.now, .int .i64 v.sg, .string v.nm, .int .i64 v.r.sg, .int .i64 v.r.sp, .bool v.r.un, .int .i64 v.r.tr, .bool v.r.good, .string v.dn, .int .i64 v.dl, .slice A n c] 35)).alloc (.cells #[.int .i64 0, .int .i64 0, .bool false, .int .i64 0, .string ⟨#[]⟩, .string ⟨#[]⟩] 37)) := below_al2 w _ _
    have HB := Lib.hid hB0
    have HX := Lib.hid (box_al2 w 35 #[.int .i64 v.k, .int .i64 v.now, .int .i64 v.sg, .string v.nm, .int .i64 v.r.sg, .int .i64 v.r.sp, .bool v.r.un, .int .i64 v.r.tr, .bool v.r.good, .string v.dn, .int .i64 v.dl, .slice A n c] (.cells #[.int .i64 0, .int .i64 0, .bool false, .int .i64 0, .string ⟨#[]⟩, .string ⟨#[]⟩] 37))
    have HC0 : Hid (Box ((w.alloc (.cells #[.int .i64 v.k, .int .i64 v.now, .int .i64 v.sg, .string v.nm, .int .i64 v.r.sg, .int .i64 v.r.sp, .bool v.r.un, .int .i64 v.r.tr, .bool v.r.good, .string v.dn, .int .i64 v.dl, .slice A n c] 35)).alloc (.cells #[.int .i64 0, .int .i64 0, .bool false, .int .i64 0, .string ⟨#[]⟩, .string ⟨#[]⟩] 37)) (w.heap.size + 1) 37 cm0.arr) := Lib.hid (box_new2 w _ _ _)
    have HH := Lib.hid (h.below hB0)
    have HHw := Lib.hid h
    have HZ : Hid (((w.alloc (.cells #[.int .i64 v.k, .int .i64 v.now, .int .i64 v.sg, .string v.nm, .int .i64 v.r.sg, .int .i64 v.r.sp, .bool v.r.un, .int .i64 v.r.tr, .bool v.r.good, .string v.dn, .int .i64 v.dl, .slice A n c] 35)).alloc (.cells #[.int .i64 0, .int .i64 0, .bool false, .int .i64 0, .string ⟨#[]⟩, .string ⟨#[]⟩] 37)).heap.size = w.heap.size + 2) := Lib.hid (by simp)
    have hgw : g < w.heap.size := h.box.lt
    have HP := Lib.hid (fun u (hu : Below (((w.alloc (.cells #[.int .i64 v.k, .int .i64 v.now, .int .i64 v.sg, .string v.nm, .int .i64 v.r.sg, .int .i64 v.r.sp, .bool v.r.un, .int .i64 v.r.tr, .bool v.r.good, .string v.dn, .int .i64 v.dl, .slice A n c] 35)).alloc (.cells #[.int .i64 0, .int .i64 0, .bool false, .int .i64 0, .string ⟨#[]⟩, .string ⟨#[]⟩] 37))).heap.size (((w.alloc (.cells #[.int .i64 v.k, .int .i64 v.now, .int .i64 v.sg, .string v.nm, .int .i64 v.r.sg, .int .i64 v.r.sp, .bool v.r.un, .int .i64 v.r.tr, .bool v.r.good, .string v.dn, .int .i64 v.dl, .slice A n c] 35)).alloc (.cells #[.int .i64 0, .int .i64 0, .bool false, .int .i64 0, .string ⟨#[]⟩, .string ⟨#[]⟩] 37))) u) => placeS_any x.AS x.nS x.cS x.gs v.sg u HHw.out.own.lS (by omega) (HH.out.own.sin.on hu).hS)
    rw [hf] at HP
    have HF := Lib.hid (actS_none hf)
    clear hf h hB0
    go_enter Tryz.func20, Tryz.ntmps20
    go_upto_region 1 with fail
    generalize ((w.alloc (.cells #[.int .i64 v.k, .int .i64 v.now, .int .i64 v.sg, .string v.nm, .int .i64 v.r.sg, .int .i64 v.r.sp, .bool v.r.un, .int .i64 v.r.tr, .bool v.r.good, .string v.dn, .int .i64 v.dl, .slice A n c] 35)).alloc (.cells #[.int .i64 0, .int .i64 0, .bool false, .int .i64 0, .string ⟨#[]⟩, .string ⟨#[]⟩] 37)) = W0 at *
    have hZ := HZ.out
    have hgl : g < W0.heap.size := HH.out.box.lt
    have hwl : w.heap.size < W0.heap.size := by omega
    clear hZ
    have z0 : ∀ u, Below W0.heap.size W0 u → u.cell? ⟨g, 1, none⟩ = some (.slice x.AS x.nS x.cS) := fun u H => (H.cell (p := ⟨g, 1, none⟩) hgl).trans (HH.out.box.cell 1)
    have z1 : ∀ u, Below W0.heap.size W0 u → u.cell? ⟨w.heap.size, 2, none⟩ = some (.int .i64 v.sg) := fun u H => (H.cell (p := ⟨w.heap.size, 2, none⟩) hwl).trans (HX.out.cell 2)
    go_region_held3 (fun u => Below W0.heap.size W0 u) (first | exact Below.refl _ _ | exact Below.drew (Below.refl _ _) | assumption)
      ((go_at_call 45; (with_reducible refine (HP.out _ ?_).mono ?_); (first | assumption | exact Below.drew (Below.refl _ _)); rintro e w1 ⟨rfl, hm⟩; have hw1 : Below W0.heap.size W0 w1 := (Below.drew (Below.refl _ W0)).trans hm.below; clear hm))
    have hC1 := Lib.hid (HC0.out.below hw1 HC0.out.lt)
    go_wp2_with (refine wpList_store_row rfl 37 _ _ rfl (w.heap.size + 1) 37 cm0.arr cm0.arr rfl rfl hC1.out (Sa.sizeC _) rfl (Sa.oneC _) ?_)
    refine bodyPost_ret (res_cm_tmp rfl _ _ (w.heap.size + 1) cm0 rfl (Sa.box_row hC1.out _)) rfl ?_
    exact ⟨x, by rw [HF.out]; rfl, here_off (HH.out.below hw1) hC1.out (by decide) (by decide) (by decide) (by decide) _, by rw [HF.out], (Foot.of_below (HB.out.trans (hw1.mono HB.out.size)) HHw.out.le).row (.inr (by have := HHw.out.le; omega)) _⟩
  · clear hsi hil
    obtain ⟨j, d, hj, hd⟩ := found_of hi hs
    have htr := (hi.tr s (List.mem_of_getElem? hs)).1
    have hid := (hi.tr s (List.mem_of_getElem? hs)).2
    have hB0 : Below w.heap.size w ((w.alloc (.cells #[.int .i64 v.k, .int .i64 v.now, .int .i64 v.sg, .string v.nm, .int .i64 v.r.sg, .int .i64 v.r.sp, .bool v.r.un, .int .i64 v.r.tr, .bool v.r.good, .string v.dn, .int .i64 v.dl, .slice A n c] 35)).alloc (.cells #[.int .i64 0, .int .i64 0, .bool false, .int .i64 0, .string ⟨#[]⟩, .string ⟨#[]⟩] 37)) := below_al2 w _ _
    have HB := Lib.hid hB0
    have HX := Lib.hid (box_al2 w 35 #[.int .i64 v.k, .int .i64 v.now, .int .i64 v.sg, .string v.nm, .int .i64 v.r.sg, .int .i64 v.r.sp, .bool v.r.un, .int .i64 v.r.tr, .bool v.r.good, .string v.dn, .int .i64 v.dl, .slice A n c] (.cells #[.int .i64 0, .int .i64 0, .bool false, .int .i64 0, .string ⟨#[]⟩, .string ⟨#[]⟩] 37))
    have HC0 : Hid (Box ((w.alloc (.cells #[.int .i64 v.k, .int .i64 v.now, .int .i64 v.sg, .string v.nm, .int .i64 v.r.sg, .int .i64 v.r.sp, .bool v.r.un, .int .i64 v.r.tr, .bool v.r.good, .string v.dn, .int .i64 v.dl, .slice A n c] 35)).alloc (.cells #[.int .i64 0, .int .i64 0, .bool false, .int .i64 0, .string ⟨#[]⟩, .string ⟨#[]⟩] 37)) (w.heap.size + 1) 37 cm0.arr) := Lib.hid (box_new2 w _ _ _)
    have HH := Lib.hid (h.below hB0)
    have HHw := Lib.hid h
    have HZ : Hid (((w.alloc (.cells #[.int .i64 v.k, .int .i64 v.now, .int .i64 v.sg, .string v.nm, .int .i64 v.r.sg, .int .i64 v.r.sp, .bool v.r.un, .int .i64 v.r.tr, .bool v.r.good, .string v.dn, .int .i64 v.dl, .slice A n c] 35)).alloc (.cells #[.int .i64 0, .int .i64 0, .bool false, .int .i64 0, .string ⟨#[]⟩, .string ⟨#[]⟩] 37)).heap.size = w.heap.size + 2) := Lib.hid (by simp)
    have hgw : g < w.heap.size := h.box.lt
    have HP := Lib.hid (fun u (hu : Below (((w.alloc (.cells #[.int .i64 v.k, .int .i64 v.now, .int .i64 v.sg, .string v.nm, .int .i64 v.r.sg, .int .i64 v.r.sp, .bool v.r.un, .int .i64 v.r.tr, .bool v.r.good, .string v.dn, .int .i64 v.dl, .slice A n c] 35)).alloc (.cells #[.int .i64 0, .int .i64 0, .bool false, .int .i64 0, .string ⟨#[]⟩, .string ⟨#[]⟩] 37))).heap.size (((w.alloc (.cells #[.int .i64 v.k, .int .i64 v.now, .int .i64 v.sg, .string v.nm, .int .i64 v.r.sg, .int .i64 v.r.sp, .bool v.r.un, .int .i64 v.r.tr, .bool v.r.good, .string v.dn, .int .i64 v.dl, .slice A n c] 35)).alloc (.cells #[.int .i64 0, .int .i64 0, .bool false, .int .i64 0, .string ⟨#[]⟩, .string ⟨#[]⟩] 37))) u) => placeS_any x.AS x.nS x.cS x.gs v.sg u HHw.out.own.lS (by omega) (HH.out.own.sin.on hu).hS)
    rw [hf] at HP
    have HF := Lib.hid (actS_some hf hs hj hd)
    have HFD := Lib.hid (fun u (hu : Below (((w.alloc (.cells #[.int .i64 v.k, .int .i64 v.now, .int .i64 v.sg, .string v.nm, .int .i64 v.r.sg, .int .i64 v.r.sp, .bool v.r.un, .int .i64 v.r.tr, .bool v.r.good, .string v.dn, .int .i64 v.dl, .slice A n c] 35)).alloc (.cells #[.int .i64 0, .int .i64 0, .bool false, .int .i64 0, .string ⟨#[]⟩, .string ⟨#[]⟩] 37))).heap.size (((w.alloc (.cells #[.int .i64 v.k, .int .i64 v.now, .int .i64 v.sg, .string v.nm, .int .i64 v.r.sg, .int .i64 v.r.sp, .bool v.r.un, .int .i64 v.r.tr, .bool v.r.good, .string v.dn, .int .i64 v.dl, .slice A n c] 35)).alloc (.cells #[.int .i64 0, .int .i64 0, .bool false, .int .i64 0, .string ⟨#[]⟩, .string ⟨#[]⟩] 37))) u) => foundD_yes x.AD x.nD x.cD x.dx s.dn u HHw.out.own.lD (by omega) (HH.out.own.sin.on hu).hD j d hd hj)
    have HAC := Lib.hid (fun u (hu : Below (((w.alloc (.cells #[.int .i64 v.k, .int .i64 v.now, .int .i64 v.sg, .string v.nm, .int .i64 v.r.sg, .int .i64 v.r.sp, .bool v.r.un, .int .i64 v.r.tr, .bool v.r.good, .string v.dn, .int .i64 v.dl, .slice A n c] 35)).alloc (.cells #[.int .i64 0, .int .i64 0, .bool false, .int .i64 0, .string ⟨#[]⟩, .string ⟨#[]⟩] 37))).heap.size (((w.alloc (.cells #[.int .i64 v.k, .int .i64 v.now, .int .i64 v.sg, .string v.nm, .int .i64 v.r.sg, .int .i64 v.r.sp, .bool v.r.un, .int .i64 v.r.tr, .bool v.r.good, .string v.dn, .int .i64 v.dl, .slice A n c] 35)).alloc (.cells #[.int .i64 0, .int .i64 0, .bool false, .int .i64 0, .string ⟨#[]⟩, .string ⟨#[]⟩] 37))) u) => acted_any d.nm d.dl d.A d.n d.c d.ss s v A n c u (((HH.out.own.sin.on hu).each d (List.mem_of_getElem? hd)).dn (tab_below ht (HB.out.trans (hu.mono HB.out.size)))) htr hid hk)
    have hne : ((i : Int) == -1) = false := by simp only [beq_eq_false_iff_ne, ne_eq]; omega
    have hin : i < x.nS := by have := HHw.out.own.lS; have := El.at_lt hs; omega
    obtain ⟨q, cur, hA, hqR, hbq, hsz, htk⟩ := own_at HHw.out.own.oS (by omega)
    have HS := Lib.hid hs
    have HQ := Lib.hid hA
    have HBQ := Lib.hid hbq
    have HSZ := Lib.hid (show i * 9 + 9 ≤ cur.size by have := (own_cap HHw.out.own.oS).1; omega)
    have HA : Hid (∀ W, Below (((w.alloc (.cells #[.int .i64 v.k, .int .i64 v.now, .int .i64 v.sg, .string v.nm, .int .i64 v.r.sg, .int .i64 v.r.sp, .bool v.r.un, .int .i64 v.r.tr, .bool v.r.good, .string v.dn, .int .i64 v.dl, .slice A n c] 35)).alloc (.cells #[.int .i64 0, .int .i64 0, .bool false, .int .i64 0, .string ⟨#[]⟩, .string ⟨#[]⟩] 37))).heap.size (((w.alloc (.cells #[.int .i64 v.k, .int .i64 v.now, .int .i64 v.sg, .string v.nm, .int .i64 v.r.sg, .int .i64 v.r.sp, .bool v.r.un, .int .i64 v.r.tr, .bool v.r.good, .string v.dn, .int .i64 v.dl, .slice A n c] 35)).alloc (.cells #[.int .i64 0, .int .i64 0, .bool false, .int .i64 0, .string ⟨#[]⟩, .string ⟨#[]⟩] 37))) W → W.cell? ⟨q, i * 9, none⟩ = some (.int .i64 s.id) ∧ W.cell? ⟨q, i * 9 + 1, none⟩ = some (.string s.dn) ∧ W.cell? ⟨q, i * 9 + 2, none⟩ = some (.int .i64 s.st) ∧ W.cell? ⟨q, i * 9 + 3, none⟩ = some (.int .i64 s.ph) ∧ W.cell? ⟨q, i * 9 + 4, none⟩ = some (.int .i64 s.sp) ∧ W.cell? ⟨q, i * 9 + 5, none⟩ = some (.int .i64 s.tr) ∧ W.cell? ⟨q, i * 9 + 6, none⟩ = some (.bool s.out) ∧ W.cell? ⟨q, i * 9 + 7, none⟩ = some (.int .i64 s.at_) ∧ W.cell? ⟨q, i * 9 + 8, none⟩ = some (.int .i64 s.sk)) := Lib.hid fun W hW => by
      have hE := (HH.out.below hW).own.sin.hS
      rw [HQ.out] at hE
      have k0 := hE.get HS.out 0 rfl
      have k1 := hE.get HS.out 1 rfl
      have k2 := hE.get HS.out 2 rfl
      have k3 := hE.get HS.out 3 rfl
      have k4 := hE.get HS.out 4 rfl
      have k5 := hE.get HS.out 5 rfl
      have k6 := hE.get HS.out 6 rfl
      have k7 := hE.get HS.out 7 rfl
      have k8 := hE.get HS.out 8 rfl
      rw [Nat.zero_add] at k0 k1 k2 k3 k4 k5 k6 k7 k8
      exact ⟨k0, k1, k2, k3, k4, k5, k6, k7, k8⟩
    clear hf hj hd hs hA h hB0 hbq hsz htk htr hid hk ht
    go_enter Tryz.func20, Tryz.ntmps20
    go_upto_region 1 with fail
    generalize ((w.alloc (.cells #[.int .i64 v.k, .int .i64 v.now, .int .i64 v.sg, .string v.nm, .int .i64 v.r.sg, .int .i64 v.r.sp, .bool v.r.un, .int .i64 v.r.tr, .bool v.r.good, .string v.dn, .int .i64 v.dl, .slice A n c] 35)).alloc (.cells #[.int .i64 0, .int .i64 0, .bool false, .int .i64 0, .string ⟨#[]⟩, .string ⟨#[]⟩] 37)) = W0 at *
    have hZ := HZ.out
    have hgl : g < W0.heap.size := HH.out.box.lt
    have hwl : w.heap.size < W0.heap.size := by omega
    clear hZ
    have z0 : ∀ u, Below W0.heap.size W0 u → u.cell? ⟨g, 1, none⟩ = some (.slice x.AS x.nS x.cS) := fun u H => (H.cell (p := ⟨g, 1, none⟩) hgl).trans (HH.out.box.cell 1)
    have z1 : ∀ u, Below W0.heap.size W0 u → u.cell? ⟨w.heap.size, 2, none⟩ = some (.int .i64 v.sg) := fun u H => (H.cell (p := ⟨w.heap.size, 2, none⟩) hwl).trans (HX.out.cell 2)
    have zq : ∀ u, Below W0.heap.size W0 u → u.cell? ⟨g, 1, none⟩ = some (.slice (some ⟨q, 0, none⟩) x.nS x.cS) := fun u H => by rw [← HQ.out]; exact z0 u H
    go_region_held3 (fun u => Below W0.heap.size W0 u) (first | exact Below.refl _ _ | exact Below.drew (Below.refl _ _) | assumption)
      ((go_at_call 45; (with_reducible refine (HP.out _ ?_).mono ?_); (first | assumption | exact Below.drew (Below.refl _ _)); rintro e w1 ⟨rfl, hm⟩; have hw1 : Below W0.heap.size W0 w1 := (Below.drew (Below.refl _ W0)).trans hm.below; clear hm))
    clear z1
    obtain ⟨k0, k1, k2, k3, k4, k5, k6, k7, k8⟩ := HA.out w1 hw1
    have c11 := zq w1 hw1
    clear z0 zq
    go_upto_region 5 with fail
    generalize actA ⟨d.nm, d.dl, d.ss⟩ s v = Y at *
    obtain ⟨y1, y2, y3⟩ := Y
    dsimp only at HAC HF
    have H2 := Lib.hid (hw1.alloc hw1.size (.cells #[.int .i64 s.id, .string s.dn, .int .i64 s.st, .int .i64 s.ph, .int .i64 s.sp, .int .i64 s.tr, .bool s.out, .int .i64 s.at_, .int .i64 s.sk] 49))
    have HS7 := Lib.hid (Box.new w1 49 #[.int .i64 s.id, .string s.dn, .int .i64 s.st, .int .i64 s.ph, .int .i64 s.sp, .int .i64 s.tr, .bool s.out, .int .i64 s.at_, .int .i64 s.sk])
    have H7 : Hid (w.heap.size + 2 ≤ w1.heap.size) := Lib.hid (by rw [← HZ.out]; exact hw1.size)
    clear k0 k1 k2 k3 k4 k5 k6 k7 k8 c11 hw1 HP HA hne
    generalize w1.alloc (.cells #[.int .i64 s.id, .string s.dn, .int .i64 s.st, .int .i64 s.ph, .int .i64 s.sp, .int .i64 s.tr, .bool s.out, .int .i64 s.at_, .int .i64 s.sk] 49) = W2 at *
    generalize w1.heap.size = b7 at *
    have HP2 := Lib.hid (fun u (hu : Below W2.heap.size W2 u) => HFD.out u (H2.out.trans (hu.mono H2.out.size)))
    clear HFD
    have z0 : ∀ u, Below W2.heap.size W2 u → u.cell? ⟨g, 0, none⟩ = some (.slice x.AD x.nD x.cD) := fun u H => (H.cell (p := ⟨g, 0, none⟩) ((HH.out.below H2.out).box.lt)).trans ((HH.out.below H2.out).box.cell 0)
    have z1 : ∀ u, Below W2.heap.size W2 u → u.cell? ⟨b7, 1, none⟩ = some (.string s.dn) := fun u H => (H.cell (p := ⟨b7, 1, none⟩) HS7.out.lt).trans (HS7.out.cell 1)
    go_cut [8, 9] (fun v8 v9 wc => ∃ b8 : Nat, v8 = .pointer (some ⟨b8, 0, none⟩) ∧ v9 = .bool true ∧ Hid (Below W2.heap.size W2 wc ∧ Box wc b8 33 #[.string d.nm, .int .i64 d.dl, .slice d.A d.n d.c] ∧ W2.heap.size ≤ b8))
    case first =>
      go_region_held3 (fun u => Below W2.heap.size W2 u) (first | exact Below.refl _ _ | exact Below.drew (Below.refl _ _) | assumption | exact Below.alloc (by assumption) (Below.size (by assumption)) _ | exact Below.alloc (Below.drew (Below.refl _ _)) (Nat.le_refl _) _ | exact below_put (below_put (below_put (by assumption) (Nat.le_refl _) _ _) (Nat.le_refl _) _ _) (Nat.le_refl _) _ _)
        ((go_at_call 43; (with_reducible refine (HP2.out _ ?_).mono ?_); (first | assumption | exact Below.drew (Below.refl _ _)); rintro e w3 ⟨rfl, hb3⟩; have hw3 : Below W2.heap.size W2 w3 := (by first | exact (Below.drew (Below.refl _ _)).trans hb3 | exact Below.trans (by assumption) (Below.mono hb3 (Below.size (by assumption)))); (first | (have HQ3 := Lib.hid ((Box.new W2.drew 33 #[.string ⟨#[]⟩, .int .i64 0, .slice none 0 0]).below hb3 (by simp)); have q0 : w3.cell? ⟨W2.heap.size, 0, none⟩ = some (.string ⟨#[]⟩) := (hb3.cell (p := ⟨W2.heap.size, 0, none⟩) (by simp)).trans ((Box.new W2.drew 33 #[.string ⟨#[]⟩, .int .i64 0, .slice none 0 0]).cell 0); have q1 : w3.cell? ⟨W2.heap.size, 1, none⟩ = some (.int .i64 0) := (hb3.cell (p := ⟨W2.heap.size, 1, none⟩) (by simp)).trans ((Box.new W2.drew 33 #[.string ⟨#[]⟩, .int .i64 0, .slice none 0 0]).cell 1); have q2 : w3.cell? ⟨W2.heap.size, 2, none⟩ = some (.slice none 0 0) := (hb3.cell (p := ⟨W2.heap.size, 2, none⟩) (by simp)).trans ((Box.new W2.drew 33 #[.string ⟨#[]⟩, .int .i64 0, .slice none 0 0]).cell 2); have p0 : w3.frozen? ⟨W2.heap.size, 0, none⟩ = false := (hb3.frozen (p := ⟨W2.heap.size, 0, none⟩) (by simp)).trans ((Box.new W2.drew 33 #[.string ⟨#[]⟩, .int .i64 0, .slice none 0 0]).frozen 0); have p1 : w3.frozen? ⟨W2.heap.size, 1, none⟩ = false := (hb3.frozen (p := ⟨W2.heap.size, 1, none⟩) (by simp)).trans ((Box.new W2.drew 33 #[.string ⟨#[]⟩, .int .i64 0, .slice none 0 0]).frozen 1); have p2 : w3.frozen? ⟨W2.heap.size, 2, none⟩ = false := (hb3.frozen (p := ⟨W2.heap.size, 2, none⟩) (by simp)).trans ((Box.new W2.drew 33 #[.string ⟨#[]⟩, .int .i64 0, .slice none 0 0]).frozen 2)) | skip)))
      all_goals
        go_wp2
        go_meet
        first
          | exact ⟨_, rfl, rfl, Lib.hid ⟨by assumption, Box.new _ _ _, Below.size (by assumption)⟩⟩
          | exact ⟨_, rfl, rfl, Lib.hid ⟨by assumption, ((HQ3.out.put 0 _).put 1 _).put 2 _, Nat.le_refl _⟩⟩
    case rest =>
      obtain ⟨b8, rfl, rfl, HC⟩ := hcut
      clear z0 z1 HP2
      have HWc := Lib.hid (H2.out.trans (HC.out.1.mono H2.out.size))
      have HHc := Lib.hid (HH.out.below HWc.out)
      have HXc := Lib.hid (HX.out.below HWc.out HX.out.lt)
      have HCc := Lib.hid (HC0.out.below HWc.out HC0.out.lt)
      have HSc := Lib.hid (HS7.out.below HC.out.1 HS7.out.lt)
      have HDc := Lib.hid HC.out.2.1
      have hq : q < w.heap.size := HBQ.out.lt
      have hgq : g ≠ q := by have := HHw.out.lt; omega
      have h7q : b7 ≠ q := by have := H7.out; omega
      have h8 : W2.heap.size ≤ b8 := HC.out.2.2
      have h7l : b7 < W2.heap.size := HS7.out.lt
      have h7 := H7.out
      have h8q : b8 ≠ q := by omega
      have hxq : w.heap.size ≠ q := by omega
      have hg4 : g ≠ w.heap.size + 1 := by omega
      have h74 : b7 ≠ w.heap.size + 1 := by omega
      have h84 : b8 ≠ w.heap.size + 1 := by omega
      have hx4 : w.heap.size ≠ w.heap.size + 1 := by omega
      have hq4 : q ≠ w.heap.size + 1 := by omega
      have HBc := Lib.hid (HBQ.out.below (HB.out.trans (HWc.out.mono HB.out.size)) HBQ.out.lt)
      have HWw := Lib.hid (HB.out.trans (HWc.out.mono HB.out.size))
      clear HC HX HC0 HS7 H2 HH HB HBQ H7 hgl hgw hwl h7 h8 h7l HZ
      go_upto_region 6 with fail
      have yg : ∀ u, (fun u => Box u g 27 x.arr ∧ Box u b8 33 #[.string d.nm, .int .i64 d.dl, .slice d.A d.n d.c] ∧ Box u b7 49 #[.int .i64 s.id, .string s.dn, .int .i64 s.st, .int .i64 s.ph, .int .i64 s.sp, .int .i64 s.tr, .bool s.out, .int .i64 s.at_, .int .i64 s.sk] ∧ Box u w.heap.size 35 #[.int .i64 v.k, .int .i64 v.now, .int .i64 v.sg, .string v.nm, .int .i64 v.r.sg, .int .i64 v.r.sp, .bool v.r.un, .int .i64 v.r.tr, .bool v.r.good, .string v.dn, .int .i64 v.dl, .slice A n c]) u → u.cell? ⟨g, 1, none⟩ = some (.slice (some ⟨q, 0, none⟩) x.nS x.cS) := fun u h => by rw [← HQ.out]; exact h.1.cell 1
      have yd0 : ∀ u, (fun u => Box u g 27 x.arr ∧ Box u b8 33 #[.string d.nm, .int .i64 d.dl, .slice d.A d.n d.c] ∧ Box u b7 49 #[.int .i64 s.id, .string s.dn, .int .i64 s.st, .int .i64 s.ph, .int .i64 s.sp, .int .i64 s.tr, .bool s.out, .int .i64 s.at_, .int .i64 s.sk] ∧ Box u w.heap.size 35 #[.int .i64 v.k, .int .i64 v.now, .int .i64 v.sg, .string v.nm, .int .i64 v.r.sg, .int .i64 v.r.sp, .bool v.r.un, .int .i64 v.r.tr, .bool v.r.good, .string v.dn, .int .i64 v.dl, .slice A n c]) u → u.cell? ⟨b8, 0, none⟩ = some (.string d.nm) := fun u h => h.2.1.cell 0
      have yd1 : ∀ u, (fun u => Box u g 27 x.arr ∧ Box u b8 33 #[.string d.nm, .int .i64 d.dl, .slice d.A d.n d.c] ∧ Box u b7 49 #[.int .i64 s.id, .string s.dn, .int .i64 s.st, .int .i64 s.ph, .int .i64 s.sp, .int .i64 s.tr, .bool s.out, .int .i64 s.at_, .int .i64 s.sk] ∧ Box u w.heap.size 35 #[.int .i64 v.k, .int .i64 v.now, .int .i64 v.sg, .string v.nm, .int .i64 v.r.sg, .int .i64 v.r.sp, .bool v.r.un, .int .i64 v.r.tr, .bool v.r.good, .string v.dn, .int .i64 v.dl, .slice A n c]) u → u.cell? ⟨b8, 1, none⟩ = some (.int .i64 d.dl) := fun u h => h.2.1.cell 1
      have yd2 : ∀ u, (fun u => Box u g 27 x.arr ∧ Box u b8 33 #[.string d.nm, .int .i64 d.dl, .slice d.A d.n d.c] ∧ Box u b7 49 #[.int .i64 s.id, .string s.dn, .int .i64 s.st, .int .i64 s.ph, .int .i64 s.sp, .int .i64 s.tr, .bool s.out, .int .i64 s.at_, .int .i64 s.sk] ∧ Box u w.heap.size 35 #[.int .i64 v.k, .int .i64 v.now, .int .i64 v.sg, .string v.nm, .int .i64 v.r.sg, .int .i64 v.r.sp, .bool v.r.un, .int .i64 v.r.tr, .bool v.r.good, .string v.dn, .int .i64 v.dl, .slice A n c]) u → u.cell? ⟨b8, 2, none⟩ = some (.slice d.A d.n d.c) := fun u h => h.2.1.cell 2
      have ys0 : ∀ u, (fun u => Box u g 27 x.arr ∧ Box u b8 33 #[.string d.nm, .int .i64 d.dl, .slice d.A d.n d.c] ∧ Box u b7 49 #[.int .i64 s.id, .string s.dn, .int .i64 s.st, .int .i64 s.ph, .int .i64 s.sp, .int .i64 s.tr, .bool s.out, .int .i64 s.at_, .int .i64 s.sk] ∧ Box u w.heap.size 35 #[.int .i64 v.k, .int .i64 v.now, .int .i64 v.sg, .string v.nm, .int .i64 v.r.sg, .int .i64 v.r.sp, .bool v.r.un, .int .i64 v.r.tr, .bool v.r.good, .string v.dn, .int .i64 v.dl, .slice A n c]) u → u.cell? ⟨b7, 0, none⟩ = some (.int .i64 s.id) := fun u h => h.2.2.1.cell 0
      have ys1 : ∀ u, (fun u => Box u g 27 x.arr ∧ Box u b8 33 #[.string d.nm, .int .i64 d.dl, .slice d.A d.n d.c] ∧ Box u b7 49 #[.int .i64 s.id, .string s.dn, .int .i64 s.st, .int .i64 s.ph, .int .i64 s.sp, .int .i64 s.tr, .bool s.out, .int .i64 s.at_, .int .i64 s.sk] ∧ Box u w.heap.size 35 #[.int .i64 v.k, .int .i64 v.now, .int .i64 v.sg, .string v.nm, .int .i64 v.r.sg, .int .i64 v.r.sp, .bool v.r.un, .int .i64 v.r.tr, .bool v.r.good, .string v.dn, .int .i64 v.dl, .slice A n c]) u → u.cell? ⟨b7, 1, none⟩ = some (.string s.dn) := fun u h => h.2.2.1.cell 1
      have ys2 : ∀ u, (fun u => Box u g 27 x.arr ∧ Box u b8 33 #[.string d.nm, .int .i64 d.dl, .slice d.A d.n d.c] ∧ Box u b7 49 #[.int .i64 s.id, .string s.dn, .int .i64 s.st, .int .i64 s.ph, .int .i64 s.sp, .int .i64 s.tr, .bool s.out, .int .i64 s.at_, .int .i64 s.sk] ∧ Box u w.heap.size 35 #[.int .i64 v.k, .int .i64 v.now, .int .i64 v.sg, .string v.nm, .int .i64 v.r.sg, .int .i64 v.r.sp, .bool v.r.un, .int .i64 v.r.tr, .bool v.r.good, .string v.dn, .int .i64 v.dl, .slice A n c]) u → u.cell? ⟨b7, 2, none⟩ = some (.int .i64 s.st) := fun u h => h.2.2.1.cell 2
      have ys3 : ∀ u, (fun u => Box u g 27 x.arr ∧ Box u b8 33 #[.string d.nm, .int .i64 d.dl, .slice d.A d.n d.c] ∧ Box u b7 49 #[.int .i64 s.id, .string s.dn, .int .i64 s.st, .int .i64 s.ph, .int .i64 s.sp, .int .i64 s.tr, .bool s.out, .int .i64 s.at_, .int .i64 s.sk] ∧ Box u w.heap.size 35 #[.int .i64 v.k, .int .i64 v.now, .int .i64 v.sg, .string v.nm, .int .i64 v.r.sg, .int .i64 v.r.sp, .bool v.r.un, .int .i64 v.r.tr, .bool v.r.good, .string v.dn, .int .i64 v.dl, .slice A n c]) u → u.cell? ⟨b7, 3, none⟩ = some (.int .i64 s.ph) := fun u h => h.2.2.1.cell 3
      have ys4 : ∀ u, (fun u => Box u g 27 x.arr ∧ Box u b8 33 #[.string d.nm, .int .i64 d.dl, .slice d.A d.n d.c] ∧ Box u b7 49 #[.int .i64 s.id, .string s.dn, .int .i64 s.st, .int .i64 s.ph, .int .i64 s.sp, .int .i64 s.tr, .bool s.out, .int .i64 s.at_, .int .i64 s.sk] ∧ Box u w.heap.size 35 #[.int .i64 v.k, .int .i64 v.now, .int .i64 v.sg, .string v.nm, .int .i64 v.r.sg, .int .i64 v.r.sp, .bool v.r.un, .int .i64 v.r.tr, .bool v.r.good, .string v.dn, .int .i64 v.dl, .slice A n c]) u → u.cell? ⟨b7, 4, none⟩ = some (.int .i64 s.sp) := fun u h => h.2.2.1.cell 4
      have ys5 : ∀ u, (fun u => Box u g 27 x.arr ∧ Box u b8 33 #[.string d.nm, .int .i64 d.dl, .slice d.A d.n d.c] ∧ Box u b7 49 #[.int .i64 s.id, .string s.dn, .int .i64 s.st, .int .i64 s.ph, .int .i64 s.sp, .int .i64 s.tr, .bool s.out, .int .i64 s.at_, .int .i64 s.sk] ∧ Box u w.heap.size 35 #[.int .i64 v.k, .int .i64 v.now, .int .i64 v.sg, .string v.nm, .int .i64 v.r.sg, .int .i64 v.r.sp, .bool v.r.un, .int .i64 v.r.tr, .bool v.r.good, .string v.dn, .int .i64 v.dl, .slice A n c]) u → u.cell? ⟨b7, 5, none⟩ = some (.int .i64 s.tr) := fun u h => h.2.2.1.cell 5
      have ys6 : ∀ u, (fun u => Box u g 27 x.arr ∧ Box u b8 33 #[.string d.nm, .int .i64 d.dl, .slice d.A d.n d.c] ∧ Box u b7 49 #[.int .i64 s.id, .string s.dn, .int .i64 s.st, .int .i64 s.ph, .int .i64 s.sp, .int .i64 s.tr, .bool s.out, .int .i64 s.at_, .int .i64 s.sk] ∧ Box u w.heap.size 35 #[.int .i64 v.k, .int .i64 v.now, .int .i64 v.sg, .string v.nm, .int .i64 v.r.sg, .int .i64 v.r.sp, .bool v.r.un, .int .i64 v.r.tr, .bool v.r.good, .string v.dn, .int .i64 v.dl, .slice A n c]) u → u.cell? ⟨b7, 6, none⟩ = some (.bool s.out) := fun u h => h.2.2.1.cell 6
      have ys7 : ∀ u, (fun u => Box u g 27 x.arr ∧ Box u b8 33 #[.string d.nm, .int .i64 d.dl, .slice d.A d.n d.c] ∧ Box u b7 49 #[.int .i64 s.id, .string s.dn, .int .i64 s.st, .int .i64 s.ph, .int .i64 s.sp, .int .i64 s.tr, .bool s.out, .int .i64 s.at_, .int .i64 s.sk] ∧ Box u w.heap.size 35 #[.int .i64 v.k, .int .i64 v.now, .int .i64 v.sg, .string v.nm, .int .i64 v.r.sg, .int .i64 v.r.sp, .bool v.r.un, .int .i64 v.r.tr, .bool v.r.good, .string v.dn, .int .i64 v.dl, .slice A n c]) u → u.cell? ⟨b7, 7, none⟩ = some (.int .i64 s.at_) := fun u h => h.2.2.1.cell 7
      have ys8 : ∀ u, (fun u => Box u g 27 x.arr ∧ Box u b8 33 #[.string d.nm, .int .i64 d.dl, .slice d.A d.n d.c] ∧ Box u b7 49 #[.int .i64 s.id, .string s.dn, .int .i64 s.st, .int .i64 s.ph, .int .i64 s.sp, .int .i64 s.tr, .bool s.out, .int .i64 s.at_, .int .i64 s.sk] ∧ Box u w.heap.size 35 #[.int .i64 v.k, .int .i64 v.now, .int .i64 v.sg, .string v.nm, .int .i64 v.r.sg, .int .i64 v.r.sp, .bool v.r.un, .int .i64 v.r.tr, .bool v.r.good, .string v.dn, .int .i64 v.dl, .slice A n c]) u → u.cell? ⟨b7, 8, none⟩ = some (.int .i64 s.sk) := fun u h => h.2.2.1.cell 8
      have yv0 : ∀ u, (fun u => Box u g 27 x.arr ∧ Box u b8 33 #[.string d.nm, .int .i64 d.dl, .slice d.A d.n d.c] ∧ Box u b7 49 #[.int .i64 s.id, .string s.dn, .int .i64 s.st, .int .i64 s.ph, .int .i64 s.sp, .int .i64 s.tr, .bool s.out, .int .i64 s.at_, .int .i64 s.sk] ∧ Box u w.heap.size 35 #[.int .i64 v.k, .int .i64 v.now, .int .i64 v.sg, .string v.nm, .int .i64 v.r.sg, .int .i64 v.r.sp, .bool v.r.un, .int .i64 v.r.tr, .bool v.r.good, .string v.dn, .int .i64 v.dl, .slice A n c]) u → u.cell? ⟨w.heap.size, 0, none⟩ = some (.int .i64 v.k) := fun u h => h.2.2.2.cell 0
      have yv1 : ∀ u, (fun u => Box u g 27 x.arr ∧ Box u b8 33 #[.string d.nm, .int .i64 d.dl, .slice d.A d.n d.c] ∧ Box u b7 49 #[.int .i64 s.id, .string s.dn, .int .i64 s.st, .int .i64 s.ph, .int .i64 s.sp, .int .i64 s.tr, .bool s.out, .int .i64 s.at_, .int .i64 s.sk] ∧ Box u w.heap.size 35 #[.int .i64 v.k, .int .i64 v.now, .int .i64 v.sg, .string v.nm, .int .i64 v.r.sg, .int .i64 v.r.sp, .bool v.r.un, .int .i64 v.r.tr, .bool v.r.good, .string v.dn, .int .i64 v.dl, .slice A n c]) u → u.cell? ⟨w.heap.size, 1, none⟩ = some (.int .i64 v.now) := fun u h => h.2.2.2.cell 1
      have yv2 : ∀ u, (fun u => Box u g 27 x.arr ∧ Box u b8 33 #[.string d.nm, .int .i64 d.dl, .slice d.A d.n d.c] ∧ Box u b7 49 #[.int .i64 s.id, .string s.dn, .int .i64 s.st, .int .i64 s.ph, .int .i64 s.sp, .int .i64 s.tr, .bool s.out, .int .i64 s.at_, .int .i64 s.sk] ∧ Box u w.heap.size 35 #[.int .i64 v.k, .int .i64 v.now, .int .i64 v.sg, .string v.nm, .int .i64 v.r.sg, .int .i64 v.r.sp, .bool v.r.un, .int .i64 v.r.tr, .bool v.r.good, .string v.dn, .int .i64 v.dl, .slice A n c]) u → u.cell? ⟨w.heap.size, 2, none⟩ = some (.int .i64 v.sg) := fun u h => h.2.2.2.cell 2
      have yv3 : ∀ u, (fun u => Box u g 27 x.arr ∧ Box u b8 33 #[.string d.nm, .int .i64 d.dl, .slice d.A d.n d.c] ∧ Box u b7 49 #[.int .i64 s.id, .string s.dn, .int .i64 s.st, .int .i64 s.ph, .int .i64 s.sp, .int .i64 s.tr, .bool s.out, .int .i64 s.at_, .int .i64 s.sk] ∧ Box u w.heap.size 35 #[.int .i64 v.k, .int .i64 v.now, .int .i64 v.sg, .string v.nm, .int .i64 v.r.sg, .int .i64 v.r.sp, .bool v.r.un, .int .i64 v.r.tr, .bool v.r.good, .string v.dn, .int .i64 v.dl, .slice A n c]) u → u.cell? ⟨w.heap.size, 3, none⟩ = some (.string v.nm) := fun u h => h.2.2.2.cell 3
      have yv4 : ∀ u, (fun u => Box u g 27 x.arr ∧ Box u b8 33 #[.string d.nm, .int .i64 d.dl, .slice d.A d.n d.c] ∧ Box u b7 49 #[.int .i64 s.id, .string s.dn, .int .i64 s.st, .int .i64 s.ph, .int .i64 s.sp, .int .i64 s.tr, .bool s.out, .int .i64 s.at_, .int .i64 s.sk] ∧ Box u w.heap.size 35 #[.int .i64 v.k, .int .i64 v.now, .int .i64 v.sg, .string v.nm, .int .i64 v.r.sg, .int .i64 v.r.sp, .bool v.r.un, .int .i64 v.r.tr, .bool v.r.good, .string v.dn, .int .i64 v.dl, .slice A n c]) u → u.cell? ⟨w.heap.size, 4, none⟩ = some (.int .i64 v.r.sg) := fun u h => h.2.2.2.cell 4
      have yv5 : ∀ u, (fun u => Box u g 27 x.arr ∧ Box u b8 33 #[.string d.nm, .int .i64 d.dl, .slice d.A d.n d.c] ∧ Box u b7 49 #[.int .i64 s.id, .string s.dn, .int .i64 s.st, .int .i64 s.ph, .int .i64 s.sp, .int .i64 s.tr, .bool s.out, .int .i64 s.at_, .int .i64 s.sk] ∧ Box u w.heap.size 35 #[.int .i64 v.k, .int .i64 v.now, .int .i64 v.sg, .string v.nm, .int .i64 v.r.sg, .int .i64 v.r.sp, .bool v.r.un, .int .i64 v.r.tr, .bool v.r.good, .string v.dn, .int .i64 v.dl, .slice A n c]) u → u.cell? ⟨w.heap.size, 5, none⟩ = some (.int .i64 v.r.sp) := fun u h => h.2.2.2.cell 5
      have yv6 : ∀ u, (fun u => Box u g 27 x.arr ∧ Box u b8 33 #[.string d.nm, .int .i64 d.dl, .slice d.A d.n d.c] ∧ Box u b7 49 #[.int .i64 s.id, .string s.dn, .int .i64 s.st, .int .i64 s.ph, .int .i64 s.sp, .int .i64 s.tr, .bool s.out, .int .i64 s.at_, .int .i64 s.sk] ∧ Box u w.heap.size 35 #[.int .i64 v.k, .int .i64 v.now, .int .i64 v.sg, .string v.nm, .int .i64 v.r.sg, .int .i64 v.r.sp, .bool v.r.un, .int .i64 v.r.tr, .bool v.r.good, .string v.dn, .int .i64 v.dl, .slice A n c]) u → u.cell? ⟨w.heap.size, 6, none⟩ = some (.bool v.r.un) := fun u h => h.2.2.2.cell 6
      have yv7 : ∀ u, (fun u => Box u g 27 x.arr ∧ Box u b8 33 #[.string d.nm, .int .i64 d.dl, .slice d.A d.n d.c] ∧ Box u b7 49 #[.int .i64 s.id, .string s.dn, .int .i64 s.st, .int .i64 s.ph, .int .i64 s.sp, .int .i64 s.tr, .bool s.out, .int .i64 s.at_, .int .i64 s.sk] ∧ Box u w.heap.size 35 #[.int .i64 v.k, .int .i64 v.now, .int .i64 v.sg, .string v.nm, .int .i64 v.r.sg, .int .i64 v.r.sp, .bool v.r.un, .int .i64 v.r.tr, .bool v.r.good, .string v.dn, .int .i64 v.dl, .slice A n c]) u → u.cell? ⟨w.heap.size, 7, none⟩ = some (.int .i64 v.r.tr) := fun u h => h.2.2.2.cell 7
      have yv8 : ∀ u, (fun u => Box u g 27 x.arr ∧ Box u b8 33 #[.string d.nm, .int .i64 d.dl, .slice d.A d.n d.c] ∧ Box u b7 49 #[.int .i64 s.id, .string s.dn, .int .i64 s.st, .int .i64 s.ph, .int .i64 s.sp, .int .i64 s.tr, .bool s.out, .int .i64 s.at_, .int .i64 s.sk] ∧ Box u w.heap.size 35 #[.int .i64 v.k, .int .i64 v.now, .int .i64 v.sg, .string v.nm, .int .i64 v.r.sg, .int .i64 v.r.sp, .bool v.r.un, .int .i64 v.r.tr, .bool v.r.good, .string v.dn, .int .i64 v.dl, .slice A n c]) u → u.cell? ⟨w.heap.size, 8, none⟩ = some (.bool v.r.good) := fun u h => h.2.2.2.cell 8
      have yv9 : ∀ u, (fun u => Box u g 27 x.arr ∧ Box u b8 33 #[.string d.nm, .int .i64 d.dl, .slice d.A d.n d.c] ∧ Box u b7 49 #[.int .i64 s.id, .string s.dn, .int .i64 s.st, .int .i64 s.ph, .int .i64 s.sp, .int .i64 s.tr, .bool s.out, .int .i64 s.at_, .int .i64 s.sk] ∧ Box u w.heap.size 35 #[.int .i64 v.k, .int .i64 v.now, .int .i64 v.sg, .string v.nm, .int .i64 v.r.sg, .int .i64 v.r.sp, .bool v.r.un, .int .i64 v.r.tr, .bool v.r.good, .string v.dn, .int .i64 v.dl, .slice A n c]) u → u.cell? ⟨w.heap.size, 9, none⟩ = some (.string v.dn) := fun u h => h.2.2.2.cell 9
      have yv10 : ∀ u, (fun u => Box u g 27 x.arr ∧ Box u b8 33 #[.string d.nm, .int .i64 d.dl, .slice d.A d.n d.c] ∧ Box u b7 49 #[.int .i64 s.id, .string s.dn, .int .i64 s.st, .int .i64 s.ph, .int .i64 s.sp, .int .i64 s.tr, .bool s.out, .int .i64 s.at_, .int .i64 s.sk] ∧ Box u w.heap.size 35 #[.int .i64 v.k, .int .i64 v.now, .int .i64 v.sg, .string v.nm, .int .i64 v.r.sg, .int .i64 v.r.sp, .bool v.r.un, .int .i64 v.r.tr, .bool v.r.good, .string v.dn, .int .i64 v.dl, .slice A n c]) u → u.cell? ⟨w.heap.size, 10, none⟩ = some (.int .i64 v.dl) := fun u h => h.2.2.2.cell 10
      have yv11 : ∀ u, (fun u => Box u g 27 x.arr ∧ Box u b8 33 #[.string d.nm, .int .i64 d.dl, .slice d.A d.n d.c] ∧ Box u b7 49 #[.int .i64 s.id, .string s.dn, .int .i64 s.st, .int .i64 s.ph, .int .i64 s.sp, .int .i64 s.tr, .bool s.out, .int .i64 s.at_, .int .i64 s.sk] ∧ Box u w.heap.size 35 #[.int .i64 v.k, .int .i64 v.now, .int .i64 v.sg, .string v.nm, .int .i64 v.r.sg, .int .i64 v.r.sp, .bool v.r.un, .int .i64 v.r.tr, .bool v.r.good, .string v.dn, .int .i64 v.dl, .slice A n c]) u → u.cell? ⟨w.heap.size, 11, none⟩ = some (.slice A n c) := fun u h => h.2.2.2.cell 11
      refine wp_region_held_drew (S := fun u => Box u g 27 x.arr ∧ Box u b8 33 #[.string d.nm, .int .i64 d.dl, .slice d.A d.n d.c] ∧ Box u b7 49 #[.int .i64 s.id, .string s.dn, .int .i64 s.st, .int .i64 s.ph, .int .i64 s.sp, .int .i64 s.tr, .bool s.out, .int .i64 s.at_, .int .i64 s.sk] ∧ Box u w.heap.size 35 #[.int .i64 v.k, .int .i64 v.now, .int .i64 v.sg, .string v.nm, .int .i64 v.r.sg, .int .i64 v.r.sp, .bool v.r.un, .int .i64 v.r.tr, .bool v.r.good, .string v.dn, .int .i64 v.dl, .slice A n c]) (by kernel_rfl) (⟨HHc.out.box, HDc.out, HSc.out, HXc.out⟩) (fun hHeld => ?_)
      refine Un.tk 0 38 rfl ?_
      refine Un.tk 1 39 rfl ?_
      refine Un.tk 2 40 rfl ?_
      refine Un.tk 3 41 rfl ?_
      refine Un.tk 4 42 rfl ?_
      refine Un.tk 5 43 rfl ?_
      refine Un.tk 6 44 rfl ?_
      refine Un.tk 7 45 rfl ?_
      clear yg yd0 yd1 yd2 ys0 ys1 ys2 ys3 ys4 ys5 ys6 ys7 ys8 yv0 yv1 yv2 yv3 yv4 yv5 yv6 yv7 yv8 yv9 yv10 yv11
      refine wpAnyH_ready (rs := [8]) (by decide +kernel) (by simp) ?_
      refine AllReadyH.cons (o := ⟨some 46, _, _, _, _, _⟩) rfl (fun K hK => ?_) AllReadyH.nil
      go_simp
      refine (HAC.out _ (HWc.out.trans ((Below.drew (Below.refl _ wc)).mono HWc.out.size))).mono ?_
      rintro e w4 ⟨rfl, hm⟩
      have HB4 : Hid (Below wc.heap.size wc w4) := Lib.hid ((Below.drew (Below.refl _ wc)).trans hm)
      clear hm
      go_wp2_with fail
      have HS4 : Hid ((fun u => Box u g 27 x.arr ∧ Box u b8 33 #[.string d.nm, .int .i64 d.dl, .slice d.A d.n d.c] ∧ Box u b7 49 #[.int .i64 s.id, .string s.dn, .int .i64 s.st, .int .i64 s.ph, .int .i64 s.sp, .int .i64 s.tr, .bool s.out, .int .i64 s.at_, .int .i64 s.sk] ∧ Box u w.heap.size 35 #[.int .i64 v.k, .int .i64 v.now, .int .i64 v.sg, .string v.nm, .int .i64 v.r.sg, .int .i64 v.r.sp, .bool v.r.un, .int .i64 v.r.tr, .bool v.r.good, .string v.dn, .int .i64 v.dl, .slice A n c]) w4) := Lib.hid ⟨HHc.out.box.below HB4.out HHc.out.box.lt, HDc.out.below HB4.out HDc.out.lt, HSc.out.below HB4.out HSc.out.lt, HXc.out.below HB4.out HXc.out.lt⟩
      have HH4 := Lib.hid (HHc.out.below HB4.out)
      have HC4 := Lib.hid (HCc.out.below HB4.out HCc.out.lt)
      have HQ4 := Lib.hid (HBc.out.below HB4.out HBc.out.lt)
      have HW4 := Lib.hid (HWw.out.trans (HB4.out.mono HWw.out.size))
      refine hK.out _ _ ?_ (fun hHeld => ?_)
      · exact HS4.out
      clear hK K
      (try simp only [Act.put, List.setIfInBounds_toArray, List.set_cons_zero, List.set_cons_succ])
      refine Un.tk 9 37 rfl ?_
      refine Un.tk 10 47 rfl ?_
      refine Un.tk 11 48 rfl ?_
      refine Un.tk 12 49 rfl ?_
      refine Un.tk 13 50 rfl ?_
      refine wpAnyH_ready (rs := [14]) (by decide +kernel) (by simp) ?_
      refine AllReadyH.cons (o := ⟨none, _, _, _, _, _⟩) rfl (fun K hK => ?_) AllReadyH.nil
      rw [if_pos (by rfl)]
      refine oper_store_mid 49 _ _ rfl q (i * 9) 49 cur y1.arr rfl rfl HQ4.out (Sa.sizeG _) HSZ.out (Sa.oneG _) ?_
      refine hK.out _ _ ?_ (fun hHeld => ?_)
      · exact ⟨Sa.box_far (HS4.out.1) hgq (spl cur (i * 9) y1.arr.toList), Sa.box_far (HS4.out.2.1) h8q (spl cur (i * 9) y1.arr.toList), Sa.box_far (HS4.out.2.2.1) h7q (spl cur (i * 9) y1.arr.toList), Sa.box_far (HS4.out.2.2.2) hxq (spl cur (i * 9) y1.arr.toList)⟩
      clear hK K
      (try simp only [Act.put])
      refine Sa.st1 15 37 _ _ rfl (w.heap.size + 1) 37 cm0.arr y2.arr rfl rfl (Sa.box_far HC4.out (Ne.symm hq4) _) (Sa.sizeC _) rfl (Sa.oneC _) (⟨Sa.box_far ((show (fun u => Box u g 27 x.arr ∧ Box u b8 33 #[.string d.nm, .int .i64 d.dl, .slice d.A d.n d.c] ∧ Box u b7 49 #[.int .i64 s.id, .string s.dn, .int .i64 s.st, .int .i64 s.ph, .int .i64 s.sp, .int .i64 s.tr, .bool s.out, .int .i64 s.at_, .int .i64 s.sk] ∧ Box u w.heap.size 35 #[.int .i64 v.k, .int .i64 v.now, .int .i64 v.sg, .string v.nm, .int .i64 v.r.sg, .int .i64 v.r.sp, .bool v.r.un, .int .i64 v.r.tr, .bool v.r.good, .string v.dn, .int .i64 v.dl, .slice A n c]) (w4.setRow q (spl cur (i * 9) y1.arr.toList)) from ⟨Sa.box_far (HS4.out.1) hgq (spl cur (i * 9) y1.arr.toList), Sa.box_far (HS4.out.2.1) h8q (spl cur (i * 9) y1.arr.toList), Sa.box_far (HS4.out.2.2.1) h7q (spl cur (i * 9) y1.arr.toList), Sa.box_far (HS4.out.2.2.2) hxq (spl cur (i * 9) y1.arr.toList)⟩).1) hg4 y2.arr, Sa.box_far ((show (fun u => Box u g 27 x.arr ∧ Box u b8 33 #[.string d.nm, .int .i64 d.dl, .slice d.A d.n d.c] ∧ Box u b7 49 #[.int .i64 s.id, .string s.dn, .int .i64 s.st, .int .i64 s.ph, .int .i64 s.sp, .int .i64 s.tr, .bool s.out, .int .i64 s.at_, .int .i64 s.sk] ∧ Box u w.heap.size 35 #[.int .i64 v.k, .int .i64 v.now, .int .i64 v.sg, .string v.nm, .int .i64 v.r.sg, .int .i64 v.r.sp, .bool v.r.un, .int .i64 v.r.tr, .bool v.r.good, .string v.dn, .int .i64 v.dl, .slice A n c]) (w4.setRow q (spl cur (i * 9) y1.arr.toList)) from ⟨Sa.box_far (HS4.out.1) hgq (spl cur (i * 9) y1.arr.toList), Sa.box_far (HS4.out.2.1) h8q (spl cur (i * 9) y1.arr.toList), Sa.box_far (HS4.out.2.2.1) h7q (spl cur (i * 9) y1.arr.toList), Sa.box_far (HS4.out.2.2.2) hxq (spl cur (i * 9) y1.arr.toList)⟩).2.1) h84 y2.arr, Sa.box_far ((show (fun u => Box u g 27 x.arr ∧ Box u b8 33 #[.string d.nm, .int .i64 d.dl, .slice d.A d.n d.c] ∧ Box u b7 49 #[.int .i64 s.id, .string s.dn, .int .i64 s.st, .int .i64 s.ph, .int .i64 s.sp, .int .i64 s.tr, .bool s.out, .int .i64 s.at_, .int .i64 s.sk] ∧ Box u w.heap.size 35 #[.int .i64 v.k, .int .i64 v.now, .int .i64 v.sg, .string v.nm, .int .i64 v.r.sg, .int .i64 v.r.sp, .bool v.r.un, .int .i64 v.r.tr, .bool v.r.good, .string v.dn, .int .i64 v.dl, .slice A n c]) (w4.setRow q (spl cur (i * 9) y1.arr.toList)) from ⟨Sa.box_far (HS4.out.1) hgq (spl cur (i * 9) y1.arr.toList), Sa.box_far (HS4.out.2.1) h8q (spl cur (i * 9) y1.arr.toList), Sa.box_far (HS4.out.2.2.1) h7q (spl cur (i * 9) y1.arr.toList), Sa.box_far (HS4.out.2.2.2) hxq (spl cur (i * 9) y1.arr.toList)⟩).2.2.1) h74 y2.arr, Sa.box_far ((show (fun u => Box u g 27 x.arr ∧ Box u b8 33 #[.string d.nm, .int .i64 d.dl, .slice d.A d.n d.c] ∧ Box u b7 49 #[.int .i64 s.id, .string s.dn, .int .i64 s.st, .int .i64 s.ph, .int .i64 s.sp, .int .i64 s.tr, .bool s.out, .int .i64 s.at_, .int .i64 s.sk] ∧ Box u w.heap.size 35 #[.int .i64 v.k, .int .i64 v.now, .int .i64 v.sg, .string v.nm, .int .i64 v.r.sg, .int .i64 v.r.sp, .bool v.r.un, .int .i64 v.r.tr, .bool v.r.good, .string v.dn, .int .i64 v.dl, .slice A n c]) (w4.setRow q (spl cur (i * 9) y1.arr.toList)) from ⟨Sa.box_far (HS4.out.1) hgq (spl cur (i * 9) y1.arr.toList), Sa.box_far (HS4.out.2.1) h8q (spl cur (i * 9) y1.arr.toList), Sa.box_far (HS4.out.2.2.1) h7q (spl cur (i * 9) y1.arr.toList), Sa.box_far (HS4.out.2.2.2) hxq (spl cur (i * 9) y1.arr.toList)⟩).2.2.2) hx4 y2.arr⟩) (fun hHeld => ?_)
      refine Un.tk 16 5 rfl ?_
      refine wpAnyH_done (by kernel_rfl) ?_ _
      have HEND : Hid (Here ((w4.setRow q (spl cur (i * 9) y1.arr.toList)).setRow (w.heap.size + 1) y2.arr) g R ⟨x.AD, x.nD, x.cD, x.AS, x.nS, x.cS, x.nx, x.dx, x.gs.set i y1⟩ ∧ Box ((w4.setRow q (spl cur (i * 9) y1.arr.toList)).setRow (w.heap.size + 1) y2.arr) (w.heap.size + 1) 37 y2.arr ∧ Foot g R w ((w4.setRow q (spl cur (i * 9) y1.arr.toList)).setRow (w.heap.size + 1) y2.arr)) := Lib.hid ⟨here_off (here_put HH4.out HQ.out HQ4.out hin y1) (Sa.box_far HC4.out (Ne.symm hq4) _) (by decide) (by decide) (by decide) (by decide) _, Sa.box_row (Sa.box_far HC4.out (Ne.symm hq4) _) _, (((Foot.of_below HW4.out HHw.out.le).row (.inr hqR) (spl cur (i * 9) y1.arr.toList)).row (.inr (by have := HHw.out.le; omega)) y2.arr)⟩
      clear HS4 HH4 HC4 HQ4 HW4 HB4
      generalize (w4.setRow q (spl cur (i * 9) y1.arr.toList)).setRow (w.heap.size + 1) y2.arr = W5 at *
      obtain ⟨c0, c1, c2, c3, c4, c5⟩ := cm_cells HEND.out.2.1
      go_wp2_with (refine wpList_store_row rfl 37 _ _ rfl (w.heap.size + 1) 37 y2.arr y2.arr rfl rfl HEND.out.2.1 (Sa.sizeC _) rfl (Sa.oneC _) ?_)
      refine bodyPost_ret (res_cm_tmp rfl _ _ (w.heap.size + 1) y2 rfl (Sa.box_row HEND.out.2.1 _)) rfl ?_
      refine ⟨_, ?_, here_off HEND.out.1 HEND.out.2.1 (by decide) (by decide) (by decide) (by decide) _, by rw [HF.out]; rfl, HEND.out.2.2.row (.inr (by have := HHw.out.le; omega)) _⟩
      rw [HF.out]
      rfl
end Go.Proofs.YteejocnogpaifaaGreatDoor.Tt
