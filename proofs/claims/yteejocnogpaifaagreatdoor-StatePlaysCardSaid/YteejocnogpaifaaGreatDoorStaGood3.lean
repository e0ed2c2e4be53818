/-
  What Good of package state answers.
  Conditions: the state lies in memory; texts are of a moderate size; the library's table of powers of ten holds what its text lays.
-/
import Derived.Test.YteejocnogpaifaaGreatDoorStaGood2
namespace Go.Proofs.YteejocnogpaifaaGreatDoor.Tt
open Go.RowKit
open Go.Proofs.YteejocnogpaifaaGreatDoor.El
open Go.Proofs.YteejocnogpaifaaGreatDoor.Df
open Go.Proofs.YteejocnogpaifaaGreatDoor.Bo (P Made ret_int ret_bool)
open Go.Proofs.YteejocnogpaifaaGreatDoor.Sa (Sg Cm Dn GoodS)
open Go.Proofs.YteejocnogpaifaaGreatDoor.Co (Ev Mod)

theorem findX_cases (dx : List DX) (t : ByteArray) : findX dx t = -1 ∨ ∃ (i : Nat) (d : DX), findX dx t = (i : Int) ∧ dx[i]? = some d ∧ d.nm = t ∧ i < dx.length := by
  rcases idx_cases (fun x : DX => decide (x.nm = t)) dx with ⟨h, _⟩ | ⟨i, d, h, hd, hp, hl, _⟩
  · exact .inl h
  · exact .inr ⟨i, d, h, hd, of_decide_eq_true hp, hl⟩
theorem sgbox {w u : World} {s : Sg} (h : Below (w.heap.size + 1) (w.alloc (.cells s.arr 49)) u) : Box u w.heap.size 49 s.arr := (Box.new w 49 s.arr).below h (by omega)
set_option maxHeartbeats 2000000 in
set_option maxRecDepth 100000 in
theorem wrongS_any (x : SV) (b : Nat) (s : Sg) (w : World) (hx : SIn w x) (hb : Box w b 27 x.arr) (hT : Tab w) (hm : x.nD ≤ 1000000) :
    Calls Tryz.prog 67 #[.agg #[.int .i64 s.id, .string s.dn, .int .i64 s.st, .int .i64 s.ph, .int .i64 s.sp, .int .i64 s.tr, .bool s.out, .int .i64 s.at_, .int .i64 s.sk], .pointer (some ⟨b, 0, none⟩)] w fun e w' => e = .returned (.bool (!okS x.dx x.nx s)) ∧ Below w.heap.size w w' := by
  have HB := Lib.hid ((Below.refl w.heap.size w).alloc (Nat.le_refl _) (.cells s.arr 49))
  have HS := Lib.hid (Box.new w 49 s.arr)
  have HX := Lib.hid (hx.on HB.out)
  have HXB := Lib.hid (hb.below HB.out hb.lt)
  have HTB := Lib.hid (tab_below hT HB.out)
  clear hx hb hT
  rcases findX_cases x.dx s.dn with hf | ⟨i, d, hf, hd, hdn, hil⟩
  · have HO : Hid (okS x.dx x.nx s = false) := Lib.hid (okS_no hf)
    have HF := Lib.hid (foundD_no x.AD x.nD x.cD x.dx s.dn (w.alloc (.cells s.arr 49)) HX.out.lD (by omega) HX.out.hD hf)
    clear hf
    go_enter Tryz.func67, Tryz.ntmps67
    go_upto_region 1 with fail
    generalize hW : w.alloc (.cells #[.int .i64 s.id, .string s.dn, .int .i64 s.st, .int .i64 s.ph, .int .i64 s.sp, .int .i64 s.tr, .bool s.out, .int .i64 s.at_, .int .i64 s.sk] 49) = W0
    rw [show w.alloc (.cells s.arr 49) = W0 from hW] at HB HS HX HXB HTB HF
    clear hW
    obtain ⟨c0, c1, c2⟩ := sv_cells HXB.out
    have d1 : W0.cell? ⟨w.heap.size, 1, none⟩ = some (.string s.dn) := HS.out.cell 1
    go_wp2_with (go_at_call 43; (with_reducible refine HF.out.mono ?_); rintro e w1 ⟨rfl, hb1⟩)
    go_ret
    exact ⟨ret_bool (by rw [HO.out]; rfl), Below.alloc (HB.out.trans (hb1.mono HB.out.size)) (by have := hb1.size; have := HB.out.size; omega) _⟩
  · have HO : Hid (okS x.dx x.nx s = (decide (s.id < x.nx) && Sa.goodB d.nm d.dl d.ss s)) := Lib.hid (okS_yes hf hd)
    have HF := Lib.hid (foundD_yes x.AD x.nD x.cD x.dx s.dn (w.alloc (.cells s.arr 49)) HX.out.lD (by omega) HX.out.hD i d hd hf)
    have HDI := Lib.hid (HX.out.each d (List.mem_of_getElem? hd))
    clear hf hd hdn hil
    have HG : Hid (∀ u, Below (w.alloc (.cells s.arr 49)).heap.size (w.alloc (.cells s.arr 49)) u → Calls Tryz.prog 68 #[.agg #[.string d.nm, .int .i64 d.dl, .slice d.A d.n d.c], .agg #[.int .i64 s.id, .string s.dn, .int .i64 s.st, .int .i64 s.ph, .int .i64 s.sp, .int .i64 s.tr, .bool s.out, .int .i64 s.at_, .int .i64 s.sk]] u fun e w' => e = .returned (.bool (Sa.goodB d.nm d.dl d.ss s)) ∧ Below u.heap.size u w') :=
      Lib.hid fun u hu => Sa.good_any d.nm d.dl d.A d.n d.c d.ss s u ((HDI.out.on hu).dn (tab_below HTB.out hu))
    generalize Sa.goodB d.nm d.dl d.ss s = gb at *
    by_cases hlt : s.id < x.nx
    · have q1 : ¬ x.nx ≤ s.id := by omega
      have q2 : decide (x.nx ≤ s.id) = false := decide_eq_false q1
      have HO2 : Hid (okS x.dx x.nx s = gb) := Lib.hid (by rw [HO.out, decide_eq_true hlt]; rfl)
      clear hlt
      go_enter Tryz.func67, Tryz.ntmps67
      go_upto_region 1 with fail
      generalize hW : w.alloc (.cells #[.int .i64 s.id, .string s.dn, .int .i64 s.st, .int .i64 s.ph, .int .i64 s.sp, .int .i64 s.tr, .bool s.out, .int .i64 s.at_, .int .i64 s.sk] 49) = W0
      rw [show w.alloc (.cells s.arr 49) = W0 from hW] at HB HS HX HXB HTB HF HDI HG
      clear hW
      obtain ⟨c0, c1, c2⟩ := sv_cells HXB.out
      have d1 : W0.cell? ⟨w.heap.size, 1, none⟩ = some (.string s.dn) := HS.out.cell 1
      go_wp2_with (first
        | (go_at_call 43; (with_reducible refine HF.out.mono ?_); rintro e w1 ⟨rfl, hb1⟩; have HA := Lib.hid (Below.alloc hb1 hb1.size (.cells #[.string d.nm, .int .i64 d.dl, .slice d.A d.n d.c] 33)); have hbl := HXB.out.lt; have hsl := HS.out.lt; have z1 : b < w1.heap.size := Nat.lt_of_lt_of_le hbl hb1.size; have z2 : w.heap.size < w1.heap.size := Nat.lt_of_lt_of_le hsl hb1.size; obtain ⟨e0, e1, e2⟩ := sv_cells (HXB.out.below hb1 hbl); obtain ⟨s0, s1, s2, s3, s4, s5, s6, s7, s8⟩ := Sa.sgcells (HS.out.below hb1 hsl))
        | (go_at_call 68; (with_reducible refine (HG.out _ HA.out).mono ?_); rintro e w2 ⟨rfl, hb2⟩))
      go_ret
      exact ⟨ret_bool (by rw [HO2.out]), HB.out.trans ((HA.out.trans (hb2.mono HA.out.size)).mono HB.out.size)⟩
    · have q1 : x.nx ≤ s.id := by omega
      have q2 : decide (x.nx ≤ s.id) = true := decide_eq_true q1
      have HO2 : Hid (okS x.dx x.nx s = false) := Lib.hid (by rw [HO.out, decide_eq_false hlt]; rfl)
      clear hlt HG
      go_enter Tryz.func67, Tryz.ntmps67
      go_upto_region 1 with fail
      generalize hW : w.alloc (.cells #[.int .i64 s.id, .string s.dn, .int .i64 s.st, .int .i64 s.ph, .int .i64 s.sp, .int .i64 s.tr, .bool s.out, .int .i64 s.at_, .int .i64 s.sk] 49) = W0
      rw [show w.alloc (.cells s.arr 49) = W0 from hW] at HB HS HX HXB HTB HF HDI
      clear hW
      obtain ⟨c0, c1, c2⟩ := sv_cells HXB.out
      have d1 : W0.cell? ⟨w.heap.size, 1, none⟩ = some (.string s.dn) := HS.out.cell 1
      go_wp2_with (go_at_call 43; (with_reducible refine HF.out.mono ?_); rintro e w1 ⟨rfl, hb1⟩; have HA := Lib.hid (Below.alloc hb1 hb1.size (.cells #[.string d.nm, .int .i64 d.dl, .slice d.A d.n d.c] 33)); have hbl := HXB.out.lt; have hsl := HS.out.lt; have z1 : b < w1.heap.size := Nat.lt_of_lt_of_le hbl hb1.size; have z2 : w.heap.size < w1.heap.size := Nat.lt_of_lt_of_le hsl hb1.size; obtain ⟨e0, e1, e2⟩ := sv_cells (HXB.out.below hb1 hbl); obtain ⟨s0, s1, s2, s3, s4, s5, s6, s7, s8⟩ := Sa.sgcells (HS.out.below hb1 hsl))
      go_ret
      exact ⟨ret_bool (by rw [HO2.out]; rfl), HB.out.trans (HA.out.mono HB.out.size)⟩
section
variable (x : SV) (w : World) (hx : SIn w x) (hT : Tab w) (hm : x.nD ≤ 1000000) (hm' : x.nS ≤ 1000000000)
include hx hT hm hm'
set_option maxHeartbeats 2000000 in
set_option maxRecDepth 100000 in
theorem goodSagas_any : Calls Tryz.prog 31 #[.agg #[.slice x.AD x.nD x.cD, .slice x.AS x.nS x.cS, .int .i64 x.nx]] w fun e w' => e = .returned (.bool (okG x.dx x.nx x.gs)) ∧ Below w.heap.size w w' := by
  have HB := Lib.hid ((Below.refl w.heap.size w).alloc (Nat.le_refl _) (.cells x.arr 27))
  have HX := Lib.hid (Box.new w 27 x.arr)
  have hx0 := hx.on HB.out
  have hT0 := tab_below hT HB.out
  have HR := Lib.hid (risingS_any x.gs x.AS x.nS x.cS (w.alloc (.cells x.arr 27)) hx0.lS hm' hx0.hS)
  have HC : Hid (∀ u, Below (w.alloc (.cells x.arr 27)).heap.size (w.alloc (.cells x.arr 27)) u → Calls Tryz.prog 70 #[.slice x.AS x.nS x.cS, .func (.func 67) #[] #[.pointer (some ⟨w.heap.size, 0, none⟩)]] u fun e w' => e = .returned (.bool (x.gs.any fun s => !okS x.dx x.nx s)) ∧ Below u.heap.size u w') :=
    Lib.hid fun u hu => containsS_any x.gs (fun s => !okS x.dx x.nx s) x.AS x.nS x.cS w.heap.size u hx0.lS hm' (hx0.on hu).hS (fun s _ V hV => wrongS_any x w.heap.size s V ((hx0.on hu).on hV) ((HX.out.below hu HX.out.lt).below hV (HX.out.below hu HX.out.lt).lt) (tab_below (tab_below hT0 hu) hV) hm)
  have hmf : ∀ (fn : Fn) (first cap : Array Value) (w : World), (Instr.makeFunc fn first cap).run Tryz.prog w = .ok (.func fn first cap) w := fun _ _ _ _ => rfl
  have HO : Hid (okG x.dx x.nx x.gs = (risesS x.gs && !(x.gs.any fun s => !okS x.dx x.nx s))) := Lib.hid rfl
  generalize okG x.dx x.nx x.gs = ok at *
  generalize (x.gs.any fun s => !okS x.dx x.nx s) = an at *
  clear hx hT hx0 hT0 hm hm'
  cases hr : risesS x.gs with
  | true =>
    rw [hr] at HR HO
    clear hr
    go_enter Tryz.func31, Tryz.ntmps31
    go_upto_region 1 with fail
    generalize hW : w.alloc (.cells #[.slice x.AD x.nD x.cD, .slice x.AS x.nS x.cS, .int .i64 x.nx] 27) = W0
    rw [show w.alloc (.cells x.arr 27) = W0 from hW] at HB HX HR HC
    clear hW
    obtain ⟨c0, c1, c2⟩ := sv_cells HX.out
    go_wp2_with (first
      | (go_at_call 69; (with_reducible refine HR.out.mono ?_); rintro e w1 ⟨rfl, hb1⟩; obtain ⟨e0, e1, e2⟩ := sv_cells (HX.out.below hb1 HX.out.lt))
      | (go_at_call 70; (with_reducible refine (HC.out _ hb1).mono ?_); rintro e w2 ⟨rfl, hb2⟩))
    go_ret
    exact ⟨ret_bool (by rw [HO.out]; rfl), HB.out.trans ((hb1.trans (hb2.mono hb1.size)).mono HB.out.size)⟩
  | false =>
    rw [hr] at HR HO
    clear hr HC
    go_enter Tryz.func31, Tryz.ntmps31
    go_upto_region 1 with fail
    generalize hW : w.alloc (.cells #[.slice x.AD x.nD x.cD, .slice x.AS x.nS x.cS, .int .i64 x.nx] 27) = W0
    rw [show w.alloc (.cells x.arr 27) = W0 from hW] at HB HX HR
    clear hW
    obtain ⟨c0, c1, c2⟩ := sv_cells HX.out
    go_wp2_with (go_at_call 69; (with_reducible refine HR.out.mono ?_); rintro e w1 ⟨rfl, hb1⟩)
    go_ret
    exact ⟨ret_bool (by rw [HO.out]; rfl), HB.out.trans (hb1.mono HB.out.size)⟩
set_option maxHeartbeats 2000000 in
set_option maxRecDepth 100000 in
theorem good16_any : Calls Tryz.prog 10 #[.agg #[.slice x.AD x.nD x.cD, .slice x.AS x.nS x.cS, .int .i64 x.nx]] w fun e w' => e = .returned (.bool (stB x)) ∧ Below w.heap.size w w' := by
  have HB := Lib.hid ((Below.refl w.heap.size w).alloc (Nat.le_refl _) (.cells x.arr 27))
  have HX := Lib.hid (Box.new w 27 x.arr)
  have hx0 := hx.on HB.out
  have hT0 := tab_below hT HB.out
  have HD := Lib.hid (goodDefs_any x.dx x.AD x.nD x.cD (w.alloc (.cells x.arr 27)) hx0.lD (by omega) hx0.hD hx0.each)
  have HG : Hid (∀ u, Below (w.alloc (.cells x.arr 27)).heap.size (w.alloc (.cells x.arr 27)) u → Calls Tryz.prog 31 #[.agg #[.slice x.AD x.nD x.cD, .slice x.AS x.nS x.cS, .int .i64 x.nx]] u fun e w' => e = .returned (.bool (okG x.dx x.nx x.gs)) ∧ Below u.heap.size u w') :=
    Lib.hid fun u hu => goodSagas_any x u (hx0.on hu) (tab_below hT0 hu) hm hm'
  have HO : Hid (stB x = (decide (0 ≤ x.nx) && (okD x.dx && okG x.dx x.nx x.gs))) := Lib.hid rfl
  generalize stB x = ok at *
  generalize okG x.dx x.nx x.gs = og at *
  clear hx hT hx0 hT0 hm hm'
  by_cases h0 : 0 ≤ x.nx
  · rw [decide_eq_true h0] at HO
    cases hr : okD x.dx with
    | true =>
      rw [hr] at HD HO
      clear hr
      go_enter Tryz.func10, Tryz.ntmps10
      go_upto_region 1 with fail
      generalize hW : w.alloc (.cells #[.slice x.AD x.nD x.cD, .slice x.AS x.nS x.cS, .int .i64 x.nx] 27) = W0
      rw [show w.alloc (.cells x.arr 27) = W0 from hW] at HB HX HD HG
      clear hW
      obtain ⟨c0, c1, c2⟩ := sv_cells HX.out
      go_wp2_with (first
        | (go_at_call 30; (with_reducible refine HD.out.mono ?_); rintro e w1 ⟨rfl, hb1⟩; obtain ⟨e0, e1, e2⟩ := sv_cells (HX.out.below hb1 HX.out.lt))
        | (go_at_call 31; (with_reducible refine (HG.out _ hb1).mono ?_); rintro e w2 ⟨rfl, hb2⟩))
      go_ret
      exact ⟨ret_bool (by rw [HO.out]; rfl), HB.out.trans ((hb1.trans (hb2.mono hb1.size)).mono HB.out.size)⟩
    | false =>
      rw [hr] at HD HO
      clear hr HG
      go_enter Tryz.func10, Tryz.ntmps10
      go_upto_region 1 with fail
      generalize hW : w.alloc (.cells #[.slice x.AD x.nD x.cD, .slice x.AS x.nS x.cS, .int .i64 x.nx] 27) = W0
      rw [show w.alloc (.cells x.arr 27) = W0 from hW] at HB HX HD
      clear hW
      obtain ⟨c0, c1, c2⟩ := sv_cells HX.out
      go_wp2_with (go_at_call 30; (with_reducible refine HD.out.mono ?_); rintro e w1 ⟨rfl, hb1⟩)
      go_ret
      exact ⟨ret_bool (by rw [HO.out]; rfl), HB.out.trans (hb1.mono HB.out.size)⟩
  · rw [decide_eq_false h0] at HO
    clear HD HG
    go_enter Tryz.func10, Tryz.ntmps10
    go_wp2
    go_ret
    exact ⟨ret_bool (by rw [HO.out]; rfl), HB.out⟩
end
end Go.Proofs.YteejocnogpaifaaGreatDoor.Tt
