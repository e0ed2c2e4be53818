/-
  The document's Good of a state that is right: it answers true.
  Conditions: the state lies in memory, and is of a moderate size.
-/
import Derived.Test.YteejocnogpaifaaGreatDoorMrg1
import Derived.Test.YteejocnogpaifaaGreatDoorStaAct
import Derived.Test.YteejocnogpaifaaGreatDoorSagRGood
import Derived.BigQuiet
import Derived.Laws.Cover1
namespace Go.Proofs.YteejocnogpaifaaGreatDoor.Tt
open Go.RowKit
open Go.Proofs.YteejocnogpaifaaGreatDoor.El
open Go.Proofs.YteejocnogpaifaaGreatDoor.Df
open Go.Proofs.YteejocnogpaifaaGreatDoor.Bo (P Made ret_int ret_bool)
open Go.Proofs.YteejocnogpaifaaGreatDoor.Sa (Sg Cm)

theorem dx_right {x : SV} (hi : Inv x.st) {d : DX} (hd : d ∈ x.dx) : Sa.RightD d.nm d.dl d.ss := hi.ok.ds.right d.m (List.mem_map.2 ⟨d, hd, rfl⟩)
theorem dx_rise {x : SV} (hi : Inv x.st) {i : Nat} {a b : DX} (ha : x.dx[i]? = some a) (hb : x.dx[i + 1]? = some b) : ltB a.nm b.nm = true := by
  have h := hi.ok.ds.rise
  unfold RiseD SV.st at h
  rw [List.pairwise_map] at h
  obtain ⟨h1, rfl⟩ := List.getElem?_eq_some_iff.1 ha
  obtain ⟨h2, rfl⟩ := List.getElem?_eq_some_iff.1 hb
  exact List.pairwise_iff_getElem.1 h i (i + 1) h1 h2 (by omega)
theorem gs_rise {x : SV} (hi : Inv x.st) {i : Nat} {a b : Sg} (ha : x.gs[i]? = some a) (hb : x.gs[i + 1]? = some b) : a.id < b.id := by
  obtain ⟨h1, rfl⟩ := List.getElem?_eq_some_iff.1 ha
  obtain ⟨h2, rfl⟩ := List.getElem?_eq_some_iff.1 hb
  exact List.pairwise_iff_getElem.1 hi.ok.rise i (i + 1) h1 h2 (by omega)
set_option maxHeartbeats 8000000 in
set_option maxRecDepth 100000 in
theorem rgood16_any (x : SV) (w : World) (hx : SIn w x) (hi : Inv x.st) (hT : Df.Tab w) (hb2 : x.nS ≤ 1000000000) :
    Calls Tryz.prog 22 #[.agg #[.slice x.AD x.nD x.cD, .slice x.AS x.nS x.cS, .int .i64 x.nx]] w fun e w' => e = .returned (.bool true) ∧ Below w.heap.size w w' := by
  have hnD : x.nD ≤ 64 := by have h1 := hi.ok.ds.few; have h2 : x.st.ds.length = x.dx.length := List.length_map _; have := hx.lD; omega
  have hn0 := hi.ok.nx
  have HX := Lib.hid hx
  have HI := Lib.hid hi
  have HT := Lib.hid (fun W (hW : Below w.heap.size w W) => tab_below hT hW)
  have HB := Lib.hid (below_al w (.cells #[.slice x.AD x.nD x.cD, .slice x.AS x.nS x.cS, .int .i64 x.nx] 27))
  have HX1 := Lib.hid (Box.new w 27 #[.slice x.AD x.nD x.cD, .slice x.AS x.nS x.cS, .int .i64 x.nx])
  have hn1 : (0 : Int) ≤ x.nx := hn0
  clear hx hi hT hn0
  go_enter Tryz.func22, Tryz.ntmps22
  go_upto_region 1 with fail
  generalize w.alloc _ = W0 at *
  have hxl := HX1.out.lt
  have c0 : W0.cell? ⟨w.heap.size, 0, none⟩ = some (.slice x.AD x.nD x.cD) := HX1.out.cell 0
  have c2 : W0.cell? ⟨w.heap.size, 2, none⟩ = some (.int .i64 x.nx) := HX1.out.cell 2
  have e1 : decide ((64 : Int) < (x.nD : Int)) = false := decide_eq_false (by omega)
  have e2 : decide (x.nx < 0) = false := decide_eq_false (by omega)
  go_upto_region 4 with fail
  clear c0 c2 e1 e2
  go_loopw [3] (fun vi wr => ∃ p : Nat, vi = .int .i64 (p : Int) ∧ p ≤ x.nD ∧ Hid (Below W0.heap.size W0 wr)) (fun vi _ => x.nD - (intOf vi).toNat)
  case atStart => exact ⟨0, rfl, Nat.zero_le _, Lib.hid (Below.refl _ _)⟩
  case round =>
    obtain ⟨p, rfl, hp, HR⟩ := hrel
    have HWR := Lib.hid (HB.out.trans (HR.out.mono HB.out.size))
    by_cases hpn : p < x.nD
    · obtain ⟨d, hd⟩ : ∃ d, x.dx[p]? = some d := ⟨x.dx[p]'(by have := HX.out.lD; omega), List.getElem?_eq_getElem _⟩
      obtain ⟨q, o, hA, hql, hqc⟩ := HX.out.hD p d hd
      have HC : Hid (∀ W, Below w.heap.size w W → Calls Tryz.prog 50 #[.agg #[.string d.nm, .int .i64 d.dl, .slice d.A d.n d.c]] W fun e w' => ∃ k : Int, e = .returned (.tuple #[.int .i64 k, .int .i64 0]) ∧ Below W.heap.size W w') := Lib.hid fun W hW => by
        have hdi := HX.out.each d (List.mem_of_getElem? hd)
        exact (Sa.chk_ok (f := 50) (w := w) (c := d.c) (fun W hW => rcheck_any d.nm d.dl d.A d.c d.ss d.n W hdi.en (by have := hdi.mod.2.1; have := hdi.en; omega) (hdi.on hW).mem (by have := hdi.mod.1; omega) (fun s hs => by have := hdi.mod.2.2 s hs; omega))).1 (dx_right HI.out (List.mem_of_getElem? hd)) W hW
      have HQ := Lib.hid hA
      have HBX : Hid (∀ W, Below W0.heap.size W0 W → W.cell? ⟨w.heap.size, 0, none⟩ = some (.slice (some ⟨q, o, none⟩) x.nD x.cD)) := Lib.hid fun W hW => by rw [← HQ.out]; exact (HX1.out.below hW hxl).cell 0
      have HDC : Hid (∀ W, Below w.heap.size w W → W.cell? ⟨q, o + p * 3, none⟩ = some (.string d.nm) ∧ W.cell? ⟨q, o + p * 3 + 1, none⟩ = some (.int .i64 d.dl) ∧ W.cell? ⟨q, o + p * 3 + 2, none⟩ = some (.slice d.A d.n d.c)) := Lib.hid fun W hW =>
        ⟨(hW.cell (p := ⟨q, o + p * 3, none⟩) hql).trans (hqc 0 _ rfl), (hW.cell (p := ⟨q, o + p * 3 + 1, none⟩) hql).trans (hqc 1 _ rfl), (hW.cell (p := ⟨q, o + p * 3 + 2, none⟩) hql).trans (hqc 2 _ rfl)⟩
      have HPR : Hid (∀ r, p = r + 1 → ∃ d' : DX, ltB d'.nm d.nm = true ∧ ∀ W, Below w.heap.size w W → W.cell? ⟨q, o + r * 3, none⟩ = some (.string d'.nm)) := Lib.hid fun r hr => by
        obtain ⟨d', hd'⟩ : ∃ d', x.dx[r]? = some d' := ⟨x.dx[r]'(by have := El.at_lt hd; omega), List.getElem?_eq_getElem _⟩
        obtain ⟨q', o', hA', hql', hqc'⟩ := HX.out.hD r d' hd'
        rw [hA] at hA'
        injection hA' with hA'
        injection hA' with h1 h2
        subst h1 h2
        exact ⟨d', dx_rise HI.out hd' (by rw [← hr]; exact hd), fun W hW => (hW.cell (p := ⟨q, o + r * 3, none⟩) hql').trans (hqc' 0 _ rfl)⟩
      clear hd hA hql hqc
      have c0 := HBX.out wr HR.out
      obtain ⟨s0, s1, s2⟩ := HDC.out wr HWR.out
      go_upto_region 7 with (go_at_call 50; (with_reducible refine (HC.out _ HWR.out).mono ?_); rintro e w3 ⟨ck, rfl, hb⟩; have HR3 := Lib.hid (HR.out.trans (hb.mono HR.out.size)); clear hb)
      clear c0 s0 s1 s2 HC
      have HW3 := Lib.hid (HB.out.trans (HR3.out.mono HB.out.size))
      have c0 := HBX.out w3 HR3.out
      obtain ⟨s0, s1, s2⟩ := HDC.out w3 HW3.out
      by_cases hz : p = 0
      · have e1 : decide ((0 : Int) < (p : Int)) = false := decide_eq_false (by omega)
        clear HPR
        go_quiet (fail)
        have HB8 : Hid (Below W0.heap.size W0 (w3.drewN nq)) := Lib.hid (HR3.out.trans ((show Below w3.heap.size w3 (w3.drewN nq) from ⟨rfl, rfl, rfl, Nat.le_refl _, fun _ _ => rfl⟩).mono HR3.out.size))
        generalize w3.drewN nq = w8 at *
        go_wp2
        go_roundw
        case rel => exact ⟨p + 1, by go_num, by omega, HB8⟩
        case measure => simp only [intOf]; omega
      · obtain ⟨r, hr⟩ : ∃ r, p = r + 1 := ⟨p - 1, by omega⟩
        obtain ⟨d', hlt, hdc⟩ := HPR.out r hr
        have t0 := hdc w3 HW3.out
        have q0 : Op.bytesLess d.nm.toList d'.nm.toList = false := by
          rw [less_lt]
          cases h : ltB d.nm d'.nm with
          | false => rfl
          | true => have := lt_tr hlt h; rw [lt_irr] at this; cases this
        have q1 : (d.nm.toList == d'.nm.toList) = false := Sa.beq_no fun e => by rw [e, lt_irr] at hlt; cases hlt
        have e1 : decide ((0 : Int) < (p : Int)) = true := decide_eq_true (by omega)
        have e3 : (p : Int) - 1 = (r : Int) := by omega
        have hr1 : r < x.nD := by omega
        clear hlt hdc HPR e3
        subst hr
        have e1 : decide ((0 : Int) < ((r + 1 : Nat) : Int)) = true := decide_eq_true (by omega)
        have e3 : ((r + 1 : Nat) : Int) - 1 = (r : Int) := by omega
        go_quiet (fail)
        have HB8 : Hid (Below W0.heap.size W0 (w3.drewN nq)) := Lib.hid (HR3.out.trans ((show Below w3.heap.size w3 (w3.drewN nq) from ⟨rfl, rfl, rfl, Nat.le_refl _, fun _ _ => rfl⟩).mono HR3.out.size))
        generalize w3.drewN nq = w8 at *
        go_wp2
        go_roundw
        case rel => exact ⟨r + 1 + 1, by go_num, by omega, HB8⟩
        case measure => simp only [intOf]; omega
    · have hpe : p = x.nD := by omega
      clear hp
      have c0 : wr.cell? ⟨w.heap.size, 0, none⟩ = some (.slice x.AD x.nD x.cD) := (HX1.out.below HR.out hxl).cell 0
      go_upto_region 10 with fail
      clear c0
      go_loopw [6] (fun vi wr => ∃ p : Nat, vi = .int .i64 (p : Int) ∧ p ≤ x.nS ∧ Hid (Below W0.heap.size W0 wr)) (fun vi _ => x.nS - (intOf vi).toNat)
      case atStart => exact ⟨0, rfl, Nat.zero_le _, HR⟩
      case round =>
        clear HR HWR hpe hpn
        obtain ⟨p, rfl, hp, HR⟩ := hrel
        have HWR := Lib.hid (HB.out.trans (HR.out.mono HB.out.size))
        by_cases hpn : p < x.nS
        · obtain ⟨s, hs⟩ : ∃ s, x.gs[p]? = some s := ⟨x.gs[p]'(by have := HX.out.lS; omega), List.getElem?_eq_getElem _⟩
          obtain ⟨q, o, hA, hql, hqc⟩ := HX.out.hS p s hs
          obtain ⟨j, d, hj, hd⟩ := found_of HI.out hs
          obtain ⟨q2, o2, hA2, hql2, hqc2⟩ := HX.out.hD j d hd
          have hjn : j < x.nD := by have := El.at_lt hd; have := HX.out.lD; omega
          have hok := HI.out.ok.gs s (List.mem_of_getElem? hs)
          have hgd : Sa.GoodS d.nm d.dl d.ss s ∧ s.id < x.nx := by
            obtain ⟨i, h1, h2, h3, h4, h5, h6⟩ := OkS.at_ HI.out.ok.ds.rise hok
            have hf : findD (x.dx.map DX.m) s.dn = (j : Int) := (findX_is x.dx s.dn).trans hj
            have hm : dmOf (x.dx.map DX.m) (j : Int) = d.m := dmOf_is (by rw [List.getElem?_map, hd]; rfl)
            have hmm : dmOf x.st.ds (findD x.st.ds s.dn) = d.m := by show dmOf (x.dx.map DX.m) (findD (x.dx.map DX.m) s.dn) = d.m; rw [hf, hm]
            rw [hmm] at h6
            exact ⟨h6, h5⟩
          have HQ := Lib.hid hA
          have HQ2 := Lib.hid hA2
          have HRG : Hid (∀ W, Below w.heap.size w W → Calls Tryz.prog 52 #[.agg #[.string d.nm, .int .i64 d.dl, .slice d.A d.n d.c], .agg #[.int .i64 s.id, .string s.dn, .int .i64 s.st, .int .i64 s.ph, .int .i64 s.sp, .int .i64 s.tr, .bool s.out, .int .i64 s.at_, .int .i64 s.sk]] W fun e w' => e = .returned (.bool true) ∧ Below W.heap.size W w') := Lib.hid fun W hW => by
            have h := Sa.rgood_any d.nm d.dl d.A d.n d.c d.ss s W (((HX.out.each d (List.mem_of_getElem? hd)).on hW).dn (HT.out W hW))
            rw [Sa.goodB_yes hgd.1] at h
            exact h
          have HFD : Hid (∀ W, Below w.heap.size w W → Calls Tryz.prog 11 #[.agg #[.slice (some ⟨q2, o2, none⟩) x.nD x.cD, .slice (some ⟨q, o, none⟩) x.nS x.cS, .int .i64 x.nx], .string s.dn] W fun e w' => e = .returned (.int .i64 (j : Int)) ∧ Below W.heap.size W w') := Lib.hid fun W hW => by
            have h := rfindD_any x s.dn W (HX.out.on hW) (by omega)
            rw [hA, hA2, hj] at h
            exact h.mono fun e w' ⟨h1, h2⟩ => ⟨h1, h2.below⟩
          have HBX : Hid (∀ W, Below W0.heap.size W0 W → W.cell? ⟨w.heap.size, 0, none⟩ = some (.slice (some ⟨q2, o2, none⟩) x.nD x.cD) ∧ W.cell? ⟨w.heap.size, 1, none⟩ = some (.slice (some ⟨q, o, none⟩) x.nS x.cS) ∧ W.cell? ⟨w.heap.size, 2, none⟩ = some (.int .i64 x.nx)) := Lib.hid fun W hW => by
            rw [← HQ.out, ← HQ2.out]
            exact ⟨(HX1.out.below hW hxl).cell 0, (HX1.out.below hW hxl).cell 1, (HX1.out.below hW hxl).cell 2⟩
          have HDC : Hid (∀ W, Below w.heap.size w W → W.cell? ⟨q2, o2 + j * 3, none⟩ = some (.string d.nm) ∧ W.cell? ⟨q2, o2 + j * 3 + 1, none⟩ = some (.int .i64 d.dl) ∧ W.cell? ⟨q2, o2 + j * 3 + 2, none⟩ = some (.slice d.A d.n d.c)) := Lib.hid fun W hW =>
            ⟨(hW.cell (p := ⟨q2, o2 + j * 3, none⟩) hql2).trans (hqc2 0 _ rfl), (hW.cell (p := ⟨q2, o2 + j * 3 + 1, none⟩) hql2).trans (hqc2 1 _ rfl), (hW.cell (p := ⟨q2, o2 + j * 3 + 2, none⟩) hql2).trans (hqc2 2 _ rfl)⟩
          have HPR : Hid (∀ r, p = r + 1 → ∃ s' : Sg, s'.id < s.id ∧ ∀ W, Below w.heap.size w W → W.cell? ⟨q, o + r * 9, none⟩ = some (.int .i64 s'.id)) := Lib.hid fun r hr => by
            obtain ⟨s', hs'⟩ : ∃ s', x.gs[r]? = some s' := ⟨x.gs[r]'(by have := El.at_lt hs; omega), List.getElem?_eq_getElem _⟩
            obtain ⟨q', o', hA', hql', hqc'⟩ := HX.out.hS r s' hs'
            rw [hA] at hA'
            injection hA' with hA'
            injection hA' with h1 h2
            subst h1 h2
            exact ⟨s', gs_rise HI.out hs' (by rw [← hr]; exact hs), fun W hW => (hW.cell (p := ⟨q, o + r * 9, none⟩) hql').trans (hqc' 0 _ rfl)⟩
          obtain ⟨s0, s1, s2, s3, s4, s5, s6, s7, s8⟩ : wr.cell? ⟨q, o + p * 9, none⟩ = some (.int .i64 s.id) ∧ wr.cell? ⟨q, o + p * 9 + 1, none⟩ = some (.string s.dn) ∧ wr.cell? ⟨q, o + p * 9 + 2, none⟩ = some (.int .i64 s.st) ∧ wr.cell? ⟨q, o + p * 9 + 3, none⟩ = some (.int .i64 s.ph) ∧ wr.cell? ⟨q, o + p * 9 + 4, none⟩ = some (.int .i64 s.sp) ∧ wr.cell? ⟨q, o + p * 9 + 5, none⟩ = some (.int .i64 s.tr) ∧ wr.cell? ⟨q, o + p * 9 + 6, none⟩ = some (.bool s.out) ∧ wr.cell? ⟨q, o + p * 9 + 7, none⟩ = some (.int .i64 s.at_) ∧ wr.cell? ⟨q, o + p * 9 + 8, none⟩ = some (.int .i64 s.sk) := ⟨(HWR.out.cell (p := ⟨q, o + p * 9, none⟩) hql).trans (hqc 0 _ rfl), (HWR.out.cell (p := ⟨q, o + p * 9 + 1, none⟩) hql).trans (hqc 1 _ rfl), (HWR.out.cell (p := ⟨q, o + p * 9 + 2, none⟩) hql).trans (hqc 2 _ rfl), (HWR.out.cell (p := ⟨q, o + p * 9 + 3, none⟩) hql).trans (hqc 3 _ rfl), (HWR.out.cell (p := ⟨q, o + p * 9 + 4, none⟩) hql).trans (hqc 4 _ rfl), (HWR.out.cell (p := ⟨q, o + p * 9 + 5, none⟩) hql).trans (hqc 5 _ rfl), (HWR.out.cell (p := ⟨q, o + p * 9 + 6, none⟩) hql).trans (hqc 6 _ rfl), (HWR.out.cell (p := ⟨q, o + p * 9 + 7, none⟩) hql).trans (hqc 7 _ rfl), (HWR.out.cell (p := ⟨q, o + p * 9 + 8, none⟩) hql).trans (hqc 8 _ rfl)⟩
          have e4 : decide (x.nx ≤ s.id) = false := decide_eq_false (by have := hgd.2; omega)
          have e5 : decide ((j : Int) < 0) = false := decide_eq_false (by omega)
          obtain ⟨_, c1, _⟩ := HBX.out wr HR.out
          clear hs hA hql hqc hj hd hA2 hql2 hqc2 hok hgd
          go_upto_region 13 with fail
          have HRA := Lib.hid (HR.out.trans ((below_al wr (.cells #[.int .i64 s.id, .string s.dn, .int .i64 s.st, .int .i64 s.ph, .int .i64 s.sp, .int .i64 s.tr, .bool s.out, .int .i64 s.at_, .int .i64 s.sk] 49)).mono HR.out.size))
          have HS7 := Lib.hid (Box.new wr 49 #[.int .i64 s.id, .string s.dn, .int .i64 s.st, .int .i64 s.ph, .int .i64 s.sp, .int .i64 s.tr, .bool s.out, .int .i64 s.at_, .int .i64 s.sk])
          clear s0 s1 s2 s3 s4 s5 s6 s7 s8 c1
          generalize wr.alloc (.cells #[.int .i64 s.id, .string s.dn, .int .i64 s.st, .int .i64 s.ph, .int .i64 s.sp, .int .i64 s.tr, .bool s.out, .int .i64 s.at_, .int .i64 s.sk] 49) = wa at *
          generalize wr.heap.size = b7 at *
          obtain ⟨c0, c1, c2⟩ := HBX.out wa HRA.out
          have t1 : wa.cell? ⟨b7, 1, none⟩ = some (.string s.dn) := HS7.out.cell 1
          go_upto_region 14 with (go_at_call 11; (with_reducible refine (HFD.out _ (HB.out.trans (HRA.out.mono HB.out.size))).mono ?_); rintro e w4 ⟨rfl, hb⟩; have HR4 := Lib.hid (HRA.out.trans (hb.mono HRA.out.size)); have HS4 := Lib.hid (HS7.out.below hb HS7.out.lt); clear hb)
          clear c0 c1 c2 t1 HFD
          have hbl := HS4.out.lt
          have HW4 := Lib.hid (HB.out.trans (HR4.out.mono HB.out.size))
          have z0 : ∀ u, Below w4.heap.size w4 u → u.cell? ⟨w.heap.size, 0, none⟩ = some (.slice (some ⟨q2, o2, none⟩) x.nD x.cD) := fun u H => (HBX.out u (HR4.out.trans (H.mono HR4.out.size))).1
          have z1 : ∀ u, Below w4.heap.size w4 u → u.cell? ⟨w.heap.size, 1, none⟩ = some (.slice (some ⟨q, o, none⟩) x.nS x.cS) := fun u H => (HBX.out u (HR4.out.trans (H.mono HR4.out.size))).2.1
          have z2 : ∀ u, Below w4.heap.size w4 u → u.cell? ⟨w.heap.size, 2, none⟩ = some (.int .i64 x.nx) := fun u H => (HBX.out u (HR4.out.trans (H.mono HR4.out.size))).2.2
          have y0 : ∀ u, Below w4.heap.size w4 u → u.cell? ⟨b7, 0, none⟩ = some (.int .i64 s.id) := fun u H => (H.cell (p := ⟨b7, 0, none⟩) hbl).trans (HS4.out.cell 0)
          have y1 : ∀ u, Below w4.heap.size w4 u → u.cell? ⟨b7, 1, none⟩ = some (.string s.dn) := fun u H => (H.cell (p := ⟨b7, 1, none⟩) hbl).trans (HS4.out.cell 1)
          have y2 : ∀ u, Below w4.heap.size w4 u → u.cell? ⟨b7, 2, none⟩ = some (.int .i64 s.st) := fun u H => (H.cell (p := ⟨b7, 2, none⟩) hbl).trans (HS4.out.cell 2)
          have y3 : ∀ u, Below w4.heap.size w4 u → u.cell? ⟨b7, 3, none⟩ = some (.int .i64 s.ph) := fun u H => (H.cell (p := ⟨b7, 3, none⟩) hbl).trans (HS4.out.cell 3)
          have y4 : ∀ u, Below w4.heap.size w4 u → u.cell? ⟨b7, 4, none⟩ = some (.int .i64 s.sp) := fun u H => (H.cell (p := ⟨b7, 4, none⟩) hbl).trans (HS4.out.cell 4)
          have y5 : ∀ u, Below w4.heap.size w4 u → u.cell? ⟨b7, 5, none⟩ = some (.int .i64 s.tr) := fun u H => (H.cell (p := ⟨b7, 5, none⟩) hbl).trans (HS4.out.cell 5)
          have y6 : ∀ u, Below w4.heap.size w4 u → u.cell? ⟨b7, 6, none⟩ = some (.bool s.out) := fun u H => (H.cell (p := ⟨b7, 6, none⟩) hbl).trans (HS4.out.cell 6)
          have y7 : ∀ u, Below w4.heap.size w4 u → u.cell? ⟨b7, 7, none⟩ = some (.int .i64 s.at_) := fun u H => (H.cell (p := ⟨b7, 7, none⟩) hbl).trans (HS4.out.cell 7)
          have y8 : ∀ u, Below w4.heap.size w4 u → u.cell? ⟨b7, 8, none⟩ = some (.int .i64 s.sk) := fun u H => (H.cell (p := ⟨b7, 8, none⟩) hbl).trans (HS4.out.cell 8)
          have x0 : ∀ u, Below w4.heap.size w4 u → u.cell? ⟨q2, o2 + j * 3, none⟩ = some (.string d.nm) := fun u H => (HDC.out u (HW4.out.trans (H.mono HW4.out.size))).1
          have x1 : ∀ u, Below w4.heap.size w4 u → u.cell? ⟨q2, o2 + j * 3 + 1, none⟩ = some (.int .i64 d.dl) := fun u H => (HDC.out u (HW4.out.trans (H.mono HW4.out.size))).2.1
          have x2 : ∀ u, Below w4.heap.size w4 u → u.cell? ⟨q2, o2 + j * 3 + 2, none⟩ = some (.slice d.A d.n d.c) := fun u H => (HDC.out u (HW4.out.trans (H.mono HW4.out.size))).2.2
          by_cases hz : p = 0
          · have e1 : decide ((0 : Int) < (p : Int)) = false := decide_eq_false (by omega)
            clear HPR
            refine wp_region_held_drew (S := fun u => Below w4.heap.size w4 u) (by kernel_rfl) (Below.drew (Below.refl _ _)) (fun hHeld => ?_)
            refine Un.tk 0 72 rfl ?_
            refine Un.tk 1 73 rfl ?_
            refine Un.tk 2 74 rfl ?_
            refine Un.tk 3 75 rfl ?_
            refine Un.tk 4 76 rfl ?_
            refine Un.tk 5 77 rfl ?_
            refine Un.tk 6 78 rfl ?_
            refine Un.tk 7 79 rfl ?_
            refine Un.tk 8 80 rfl ?_
            refine Un.tk 9 81 rfl ?_
            refine Un.tk 10 82 rfl ?_
            refine Un.tk 11 83 rfl ?_
            refine Un.tk 12 84 rfl ?_
            refine Un.ofk 13 85 rfl ?_
            refine Un.ofk 14 86 rfl ?_
            refine Un.ofk 15 87 rfl ?_
            refine Un.ofk 16 88 rfl ?_
            refine Un.ofk 17 89 rfl ?_
            refine Un.ofk 18 90 rfl ?_
            refine Un.ofk 19 91 rfl ?_
            refine Un.ofk 20 92 rfl ?_
            refine Un.ofk 21 93 rfl ?_
            refine Un.ofk 22 94 rfl ?_
            refine Un.tk 23 95 rfl ?_
            refine Un.tk 24 96 rfl ?_
            refine Un.tk 25 97 rfl ?_
            refine Un.tk 26 98 rfl ?_
            refine Un.tk 27 99 rfl ?_
            refine Un.tk 28 100 rfl ?_
            refine Un.tk 29 101 rfl ?_
            refine Un.tk 30 102 rfl ?_
            refine Un.tk 31 103 rfl ?_
            refine wpAnyH_ready (rs := [32]) (by decide +kernel) (by simp) ?_
            refine AllReadyH.cons (o := ⟨some 104, _, _, _, _, _⟩) rfl (fun K hK => ?_) AllReadyH.nil
            go_simp
            (with_reducible refine (HRG.out _ (HW4.out.trans ((Below.drew (Below.refl _ w4)).mono HW4.out.size))).mono ?_)
            rintro e w6 ⟨rfl, hm⟩
            have hw6 : Below w4.heap.size w4 w6 := (Below.drew (Below.refl _ w4)).trans hm
            go_wp2_with fail
            refine hK.out _ _ ?_ (fun hHeld => ?_)
            · exact hw6
            clear hK K hm
            (try simp only [Act.put, List.setIfInBounds_toArray, List.set_cons_zero, List.set_cons_succ])
            refine Un.tk 33 105 rfl ?_
            refine Un.tk 34 106 rfl ?_
            refine wpAnyH_done (by kernel_rfl) ?_ _
            have HB6 := Lib.hid (HR4.out.trans (hw6.mono HR4.out.size))
            clear hw6 z0 z1 z2 y0 y1 y2 y3 y4 y5 y6 y7 y8 x0 x1 x2
            go_wp2
            go_roundw
            case rel => exact ⟨p + 1, by go_num, by omega, HB6⟩
            case measure => simp only [intOf]; omega
          · obtain ⟨r, hr⟩ : ∃ r, p = r + 1 := ⟨p - 1, by omega⟩
            obtain ⟨s', hlt, hdc⟩ := HPR.out r hr
            have zp : ∀ u, Below w4.heap.size w4 u → u.cell? ⟨q, o + r * 9, none⟩ = some (.int .i64 s'.id) := fun u H => hdc u (HW4.out.trans (H.mono HW4.out.size))
            have e6 : decide (s.id ≤ s'.id) = false := decide_eq_false (by omega)
            clear HPR hlt hdc
            subst hr
            have e1 : decide ((0 : Int) < ((r + 1 : Nat) : Int)) = true := decide_eq_true (by omega)
            have e3 : ((r + 1 : Nat) : Int) - 1 = (r : Int) := by omega
            have hr1 : r < x.nS := by omega
            have hw1 : IntKind.i64.wrap (r : Int) = (r : Int) := by rw [IntKind.wrap_i64]; omega
            have hr2 : (0 : Int) ≤ (r : Int) := by omega
            have hr3 : (r : Int) < (x.nS : Int) := by omega
            have hr4 : (r : Int) ≤ (x.nS : Int) := by omega
            have hw2 : IntKind.i64.wrap ((r : Int) + 1 - 1) = (r : Int) := by rw [IntKind.wrap_i64]; omega
            go_region_held3 (fun u => Below w4.heap.size w4 u) (first | exact Below.refl _ _ | exact Below.drew (Below.refl _ _) | assumption)
              ((go_at_call 52; (with_reducible refine (HRG.out _ (HW4.out.trans (Below.mono ?_ HW4.out.size))).mono ?_); (first | assumption | exact Below.drew (Below.refl _ _)); rintro e w6 ⟨rfl, hm⟩; have hw6 : Below w4.heap.size w4 w6 := (Below.drew (Below.refl _ w4)).trans hm; clear hm))
            have HB6 := Lib.hid (HR4.out.trans (hw6.mono HR4.out.size))
            clear hw6 z0 z1 z2 y0 y1 y2 y3 y4 y5 y6 y7 y8 x0 x1 x2
            go_wp2
            go_roundw
            case rel => exact ⟨r + 1 + 1, by go_num, by omega, HB6⟩
            case measure => simp only [intOf]; omega
        · have hpe : p = x.nS := by omega
          have c1 : wr.cell? ⟨w.heap.size, 1, none⟩ = some (.slice x.AS x.nS x.cS) := (HX1.out.below HR.out hxl).cell 1
          clear hp
          go_wp2
          go_ret
          exact ⟨rfl, HWR.out⟩
end Go.Proofs.YteejocnogpaifaaGreatDoor.Tt
