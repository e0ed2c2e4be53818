/-
  The document's Same, of two states that are one: it answers true.
  Conditions: both lie in memory, and are of a moderate size.
-/
import Derived.Test.YteejocnogpaifaaGreatDoorStaAct
import Derived.Test.YteejocnogpaifaaGreatDoorDefSame
import Derived.BigQuiet
namespace Go.Proofs.YteejocnogpaifaaGreatDoor.Tt
open Go.RowKit
open Go.Proofs.YteejocnogpaifaaGreatDoor.El
open Go.Proofs.YteejocnogpaifaaGreatDoor.Df
open Go.Proofs.YteejocnogpaifaaGreatDoor.Bo (P Made ret_int ret_bool)
open Go.Proofs.YteejocnogpaifaaGreatDoor.Sa (Sg Cm)

theorem neq_self16 (s : Sg) (W : World) : (binOp .neq 49 (.agg #[.int .i64 s.id, .string s.dn, .int .i64 s.st, .int .i64 s.ph, .int .i64 s.sp, .int .i64 s.tr, .bool s.out, .int .i64 s.at_, .int .i64 s.sk]) (.agg #[.int .i64 s.id, .string s.dn, .int .i64 s.st, .int .i64 s.ph, .int .i64 s.sp, .int .i64 s.tr, .bool s.out, .int .i64 s.at_, .int .i64 s.sk])).run Tryz.prog W = .ok (.bool false) W := by
  have e := Sa.neq_saga s s W
  rw [Sa.eqG_self] at e
  exact e
set_option maxHeartbeats 8000000 in
set_option maxRecDepth 100000 in
theorem rsame16_any (x y : SV) (w : World) (hx : SIn w x) (hy : SIn w y) (he : x.st = y.st) (hb : x.nD ≤ 1000000) (hb2 : x.nS ≤ 1000000000) :
    Calls Tryz.prog 9 #[.agg #[.slice x.AD x.nD x.cD, .slice x.AS x.nS x.cS, .int .i64 x.nx], .agg #[.slice y.AD y.nD y.cD, .slice y.AS y.nS y.cS, .int .i64 y.nx]] w fun e w' => e = .returned (.bool true) ∧ Below w.heap.size w w' := by
  have hnx : y.nx = x.nx := (congrArg Ms.nx he).symm
  have hgs : y.gs = x.gs := (congrArg Ms.gs he).symm
  have hds : x.dx.map DX.m = y.dx.map DX.m := congrArg Ms.ds he
  have hnD : y.nD = x.nD := by have h := congrArg List.length hds; rw [List.length_map, List.length_map] at h; rw [hx.lD, hy.lD, h]
  have hnS : y.nS = x.nS := by rw [hx.lS, hy.lS, hgs]
  have HX := Lib.hid hx
  have HY := Lib.hid hy
  have HDS := Lib.hid hds
  have HGS := Lib.hid hgs
  have HB := Lib.hid (below_al2 w (.cells #[.slice x.AD x.nD x.cD, .slice x.AS x.nS x.cS, .int .i64 x.nx] 27) (.cells #[.slice y.AD y.nD y.cD, .slice y.AS y.nS y.cS, .int .i64 y.nx] 27))
  have HX1 := Lib.hid (box_al2 w 27 #[.slice x.AD x.nD x.cD, .slice x.AS x.nS x.cS, .int .i64 x.nx] (.cells #[.slice y.AD y.nD y.cD, .slice y.AS y.nS y.cS, .int .i64 y.nx] 27))
  have HY1 := Lib.hid (box_new2 w (.cells #[.slice x.AD x.nD x.cD, .slice x.AS x.nS x.cS, .int .i64 x.nx] 27) 27 #[.slice y.AD y.nD y.cD, .slice y.AS y.nS y.cS, .int .i64 y.nx])
  clear hx hy he hgs hds
  rw [hnx, hnD, hnS] at HB HX1 HY1 ⊢
  clear hnx
  go_enter Tryz.func9, Tryz.ntmps9
  go_upto_region 1 with fail
  generalize ((w.alloc _).alloc _) = W0 at *
  have c0 : W0.cell? ⟨w.heap.size, 0, none⟩ = some (.slice x.AD x.nD x.cD) := HX1.out.cell 0
  have c1 : W0.cell? ⟨w.heap.size, 1, none⟩ = some (.slice x.AS x.nS x.cS) := HX1.out.cell 1
  have c2 : W0.cell? ⟨w.heap.size, 2, none⟩ = some (.int .i64 x.nx) := HX1.out.cell 2
  have d0 : W0.cell? ⟨w.heap.size + 1, 0, none⟩ = some (.slice y.AD x.nD y.cD) := HY1.out.cell 0
  have d1 : W0.cell? ⟨w.heap.size + 1, 1, none⟩ = some (.slice y.AS x.nS y.cS) := HY1.out.cell 1
  have d2 : W0.cell? ⟨w.heap.size + 1, 2, none⟩ = some (.int .i64 x.nx) := HY1.out.cell 2
  have e1 : (x.nx != x.nx) = false := by simp
  have e2 : ((x.nD : Int) != (x.nD : Int)) = false := by simp
  have e3 : ((x.nS : Int) != (x.nS : Int)) = false := by simp
  go_upto_region 4 with fail
  clear c0 c1 c2 d0 d1 d2 e1 e2 e3
  have hxl := HX1.out.lt
  have hyl := HY1.out.lt
  go_loopw [5] (fun vi wr => ∃ p : Nat, vi = .int .i64 (p : Int) ∧ p ≤ x.nD ∧ Hid (Below W0.heap.size W0 wr)) (fun vi _ => x.nD - (intOf vi).toNat)
  case atStart => exact ⟨0, rfl, Nat.zero_le _, Lib.hid (Below.refl _ _)⟩
  case round =>
    obtain ⟨p, rfl, hp, HR⟩ := hrel
    have HWR := Lib.hid (HB.out.trans (HR.out.mono HB.out.size))
    have c0 : wr.cell? ⟨w.heap.size, 0, none⟩ = some (.slice x.AD x.nD x.cD) := (HX1.out.below HR.out hxl).cell 0
    by_cases hpn : p < x.nD
    · obtain ⟨d, hd⟩ : ∃ d, x.dx[p]? = some d := ⟨x.dx[p]'(by have := HX.out.lD; omega), List.getElem?_eq_getElem _⟩
      obtain ⟨d', hd', hdm⟩ : ∃ d', y.dx[p]? = some d' ∧ d'.m = d.m := by
        have h : (x.dx.map DX.m)[p]? = (y.dx.map DX.m)[p]? := congrArg (fun l : List Dm => l[p]?) HDS.out
        rw [List.getElem?_map, List.getElem?_map, hd] at h
        exact Option.map_eq_some_iff.1 h.symm
      obtain ⟨q, o, hA, hql, hqc⟩ := HX.out.hD p d hd
      obtain ⟨q2, o2, hA2, hql2, hqc2⟩ := HY.out.hD p d' hd'
      have hdi := HX.out.each d (List.mem_of_getElem? hd)
      have hdi2 := HY.out.each d' (List.mem_of_getElem? hd')
      have hsm : sameB d.nm d'.nm d.dl d'.dl d.ss d'.ss = true := by
        have e1 : d'.nm = d.nm := congrArg Dm.nm hdm
        have e2 : d'.dl = d.dl := congrArg Dm.dl hdm
        have e3 : d'.ss = d.ss := congrArg Dm.ss hdm
        rw [e1, e2, e3]
        simp [sameB]
      have HSM : Hid (∀ W, Below w.heap.size w W → Calls Tryz.prog 12 #[.agg #[.string d.nm, .int .i64 d.dl, .slice d.A d.n d.c], .agg #[.string d'.nm, .int .i64 d'.dl, .slice d'.A d'.n d'.c]] W fun e w' => e = .returned (.bool true) ∧ Below W.heap.size W w') := Lib.hid fun W hW => by
        have h := rsame_any d.nm d'.nm d.dl d'.dl d.A d'.A d.c d'.c d.ss d'.ss d.n d'.n W hdi.en hdi2.en (by have := hdi.mod.2.1; have := hdi.en; omega) (by have := hdi2.mod.2.1; have := hdi2.en; omega) (hdi.on hW).mem (hdi2.on hW).mem
        rw [hsm] at h
        exact h.mono fun e w' ⟨h1, h2⟩ => ⟨h1, h2.below⟩
      have HQ := Lib.hid hA
      have HQ2 := Lib.hid hA2
      have z0 : ∀ u, Below wr.heap.size wr u → u.cell? ⟨w.heap.size, 0, none⟩ = some (.slice (some ⟨q, o, none⟩) x.nD x.cD) := fun u H => by rw [← HQ.out]; exact (HX1.out.below (HR.out.trans (H.mono HR.out.size)) hxl).cell 0
      have z1 : ∀ u, Below wr.heap.size wr u → u.cell? ⟨w.heap.size + 1, 0, none⟩ = some (.slice (some ⟨q2, o2, none⟩) x.nD y.cD) := fun u H => by rw [← HQ2.out]; exact (HY1.out.below (HR.out.trans (H.mono HR.out.size)) hyl).cell 0
      have z2 : ∀ u, Below wr.heap.size wr u → u.cell? ⟨q, o + p * 3, none⟩ = some (.string d.nm) := fun u H => ((HWR.out.trans (H.mono HWR.out.size)).cell (p := ⟨q, o + p * 3, none⟩) hql).trans (hqc 0 _ rfl)
      have z3 : ∀ u, Below wr.heap.size wr u → u.cell? ⟨q, o + p * 3 + 1, none⟩ = some (.int .i64 d.dl) := fun u H => ((HWR.out.trans (H.mono HWR.out.size)).cell (p := ⟨q, o + p * 3 + 1, none⟩) hql).trans (hqc 1 _ rfl)
      have z4 : ∀ u, Below wr.heap.size wr u → u.cell? ⟨q, o + p * 3 + 2, none⟩ = some (.slice d.A d.n d.c) := fun u H => ((HWR.out.trans (H.mono HWR.out.size)).cell (p := ⟨q, o + p * 3 + 2, none⟩) hql).trans (hqc 2 _ rfl)
      have z5 : ∀ u, Below wr.heap.size wr u → u.cell? ⟨q2, o2 + p * 3, none⟩ = some (.string d'.nm) := fun u H => ((HWR.out.trans (H.mono HWR.out.size)).cell (p := ⟨q2, o2 + p * 3, none⟩) hql2).trans (hqc2 0 _ rfl)
      have z6 : ∀ u, Below wr.heap.size wr u → u.cell? ⟨q2, o2 + p * 3 + 1, none⟩ = some (.int .i64 d'.dl) := fun u H => ((HWR.out.trans (H.mono HWR.out.size)).cell (p := ⟨q2, o2 + p * 3 + 1, none⟩) hql2).trans (hqc2 1 _ rfl)
      have z7 : ∀ u, Below wr.heap.size wr u → u.cell? ⟨q2, o2 + p * 3 + 2, none⟩ = some (.slice d'.A d'.n d'.c) := fun u H => ((HWR.out.trans (H.mono HWR.out.size)).cell (p := ⟨q2, o2 + p * 3 + 2, none⟩) hql2).trans (hqc2 2 _ rfl)
      clear hd hd' hdm hA hA2 hql hqc hql2 hqc2 hdi hdi2 hsm
      go_upto_region 6 with fail
      clear c0
      go_region_held3 (fun u => Below wr.heap.size wr u) (first | exact Below.refl _ _ | exact Below.drew (Below.refl _ _) | assumption)
        ((go_at_call 12; (with_reducible refine (HSM.out _ (HWR.out.trans (Below.mono ?_ HWR.out.size))).mono ?_); (first | assumption | exact Below.drew (Below.refl _ _)); rintro e w6 ⟨rfl, hm⟩; have hw6 : Below wr.heap.size wr w6 := (Below.drew (Below.refl _ wr)).trans hm; clear hm))
      have HB6 := Lib.hid (HR.out.trans (hw6.mono HR.out.size))
      clear hw6 z0 z1 z2 z3 z4 z5 z6 z7
      go_wp2
      go_roundw
      case rel => exact ⟨p + 1, by go_num, by omega, HB6⟩
      case measure => simp only [intOf]; omega
    · have hpe : p = x.nD := by omega
      clear hp
      go_upto_region 9 with fail
      clear c0
      go_loopw [6] (fun vi wr => ∃ p : Nat, vi = .int .i64 (p : Int) ∧ p ≤ x.nS ∧ Hid (Below W0.heap.size W0 wr)) (fun vi _ => x.nS - (intOf vi).toNat)
      case atStart => exact ⟨0, rfl, Nat.zero_le _, HR⟩
      case round =>
        clear HR HWR hpe hpn
        obtain ⟨p, rfl, hp, HR⟩ := hrel
        have HWR := Lib.hid (HB.out.trans (HR.out.mono HB.out.size))
        by_cases hpn : p < x.nS
        · obtain ⟨s, hs⟩ : ∃ s, x.gs[p]? = some s := ⟨x.gs[p]'(by have := HX.out.lS; omega), List.getElem?_eq_getElem _⟩
          obtain ⟨q, o, hA, hql, hqc⟩ := HX.out.hS p s hs
          obtain ⟨q2, o2, hA2, hql2, hqc2⟩ := HY.out.hS p s (by rw [HGS.out]; exact hs)
          have c1 : wr.cell? ⟨w.heap.size, 1, none⟩ = some (.slice (some ⟨q, o, none⟩) x.nS x.cS) := by rw [← hA]; exact (HX1.out.below HR.out hxl).cell 1
          have d1 : wr.cell? ⟨w.heap.size + 1, 1, none⟩ = some (.slice (some ⟨q2, o2, none⟩) x.nS y.cS) := by rw [← hA2]; exact (HY1.out.below HR.out hyl).cell 1
          obtain ⟨s0, s1, s2, s3, s4, s5, s6, s7, s8⟩ : wr.cell? ⟨q, o + p * 9, none⟩ = some (.int .i64 s.id) ∧ wr.cell? ⟨q, o + p * 9 + 1, none⟩ = some (.string s.dn) ∧ wr.cell? ⟨q, o + p * 9 + 2, none⟩ = some (.int .i64 s.st) ∧ wr.cell? ⟨q, o + p * 9 + 3, none⟩ = some (.int .i64 s.ph) ∧ wr.cell? ⟨q, o + p * 9 + 4, none⟩ = some (.int .i64 s.sp) ∧ wr.cell? ⟨q, o + p * 9 + 5, none⟩ = some (.int .i64 s.tr) ∧ wr.cell? ⟨q, o + p * 9 + 6, none⟩ = some (.bool s.out) ∧ wr.cell? ⟨q, o + p * 9 + 7, none⟩ = some (.int .i64 s.at_) ∧ wr.cell? ⟨q, o + p * 9 + 8, none⟩ = some (.int .i64 s.sk) := ⟨(HWR.out.cell (p := ⟨q, o + p * 9, none⟩) hql).trans (hqc 0 _ rfl), (HWR.out.cell (p := ⟨q, o + p * 9 + 1, none⟩) hql).trans (hqc 1 _ rfl), (HWR.out.cell (p := ⟨q, o + p * 9 + 2, none⟩) hql).trans (hqc 2 _ rfl), (HWR.out.cell (p := ⟨q, o + p * 9 + 3, none⟩) hql).trans (hqc 3 _ rfl), (HWR.out.cell (p := ⟨q, o + p * 9 + 4, none⟩) hql).trans (hqc 4 _ rfl), (HWR.out.cell (p := ⟨q, o + p * 9 + 5, none⟩) hql).trans (hqc 5 _ rfl), (HWR.out.cell (p := ⟨q, o + p * 9 + 6, none⟩) hql).trans (hqc 6 _ rfl), (HWR.out.cell (p := ⟨q, o + p * 9 + 7, none⟩) hql).trans (hqc 7 _ rfl), (HWR.out.cell (p := ⟨q, o + p * 9 + 8, none⟩) hql).trans (hqc 8 _ rfl)⟩
          obtain ⟨r0, r1, r2, r3, r4, r5, r6, r7, r8⟩ : wr.cell? ⟨q2, o2 + p * 9, none⟩ = some (.int .i64 s.id) ∧ wr.cell? ⟨q2, o2 + p * 9 + 1, none⟩ = some (.string s.dn) ∧ wr.cell? ⟨q2, o2 + p * 9 + 2, none⟩ = some (.int .i64 s.st) ∧ wr.cell? ⟨q2, o2 + p * 9 + 3, none⟩ = some (.int .i64 s.ph) ∧ wr.cell? ⟨q2, o2 + p * 9 + 4, none⟩ = some (.int .i64 s.sp) ∧ wr.cell? ⟨q2, o2 + p * 9 + 5, none⟩ = some (.int .i64 s.tr) ∧ wr.cell? ⟨q2, o2 + p * 9 + 6, none⟩ = some (.bool s.out) ∧ wr.cell? ⟨q2, o2 + p * 9 + 7, none⟩ = some (.int .i64 s.at_) ∧ wr.cell? ⟨q2, o2 + p * 9 + 8, none⟩ = some (.int .i64 s.sk) := ⟨(HWR.out.cell (p := ⟨q2, o2 + p * 9, none⟩) hql2).trans (hqc2 0 _ rfl), (HWR.out.cell (p := ⟨q2, o2 + p * 9 + 1, none⟩) hql2).trans (hqc2 1 _ rfl), (HWR.out.cell (p := ⟨q2, o2 + p * 9 + 2, none⟩) hql2).trans (hqc2 2 _ rfl), (HWR.out.cell (p := ⟨q2, o2 + p * 9 + 3, none⟩) hql2).trans (hqc2 3 _ rfl), (HWR.out.cell (p := ⟨q2, o2 + p * 9 + 4, none⟩) hql2).trans (hqc2 4 _ rfl), (HWR.out.cell (p := ⟨q2, o2 + p * 9 + 5, none⟩) hql2).trans (hqc2 5 _ rfl), (HWR.out.cell (p := ⟨q2, o2 + p * 9 + 6, none⟩) hql2).trans (hqc2 6 _ rfl), (HWR.out.cell (p := ⟨q2, o2 + p * 9 + 7, none⟩) hql2).trans (hqc2 7 _ rfl), (HWR.out.cell (p := ⟨q2, o2 + p * 9 + 8, none⟩) hql2).trans (hqc2 8 _ rfl)⟩
          have gd := Sa.guard_saga
          have ns := neq_self16 s
          clear hs hA hA2 hql hqc hql2 hqc2
          go_upto_region 11 with fail
          go_quiet (fail)
          have HB8 : Hid (Below W0.heap.size W0 (wr.drewN nq)) := Lib.hid (HR.out.trans ((show Below wr.heap.size wr (wr.drewN nq) from ⟨rfl, rfl, rfl, Nat.le_refl _, fun _ _ => rfl⟩).mono HR.out.size))
          generalize wr.drewN nq = w8 at *
          go_wp2
          go_roundw
          case rel => exact ⟨p + 1, by go_num, by omega, HB8⟩
          case measure => simp only [intOf]; omega
        · have hpe : p = x.nS := by omega
          have c1 : wr.cell? ⟨w.heap.size, 1, none⟩ = some (.slice x.AS x.nS x.cS) := (HX1.out.below HR.out hxl).cell 1
          clear hp
          go_wp2
          go_ret
          exact ⟨rfl, HWR.out⟩
end Go.Proofs.YteejocnogpaifaaGreatDoor.Tt
