/-
  Who is found: the place of a definition's name, of a saga's number, in a row, by the program and by the document.
  Conditions: the rows lie in memory.
-/
import Derived.Test.YteejocnogpaifaaGreatDoorStaMem
import Derived.LoopTactic
import Derived.WalkMore
import Derived.Lib.Hide
namespace Go.Proofs.YteejocnogpaifaaGreatDoor.Tt
open Go.RowKit
open Go.Proofs.YteejocnogpaifaaGreatDoor.El
open Go.Proofs.YteejocnogpaifaaGreatDoor.Df
open Go.Proofs.YteejocnogpaifaaGreatDoor.Bo (P Made ret_int ret_bool)
open Go.Proofs.YteejocnogpaifaaGreatDoor.Sa (Sg Cm)
open Go.Proofs.YteejocnogpaifaaGreatDoor.Co (Ev Mod)

def findX (dx : List DX) (t : ByteArray) : Int := idx (fun x : DX => decide (x.nm = t)) dx
theorem findX_is (dx : List DX) (t : ByteArray) : findD (dx.map DX.m) t = findX dx t := idx_map DX.m dx
theorem keyD_any (x : DX) (w : World) : Calls Tryz.prog 41 #[.agg #[.string x.nm, .int .i64 x.dl, .slice x.A x.n x.c]] w fun e w' => e = .returned (.string x.nm) ∧ Made w w' := by
  go_enter Tryz.func41, Tryz.ntmps41
  go_wp2
  go_ret
  exact ⟨rfl, Made.alloc _ _⟩
set_option maxHeartbeats 2000000 in
set_option maxRecDepth 100000 in
theorem placeD_any (A : Option Addr) (n c : Nat) (dx : List DX) (t : ByteArray) (w : World) (hn : n = dx.length) (hb : n ≤ 9223372036854775807) (hE : Els DX.cells 3 w w.heap.size A dx) :
    Calls Tryz.prog 40 #[.slice A n c, .func (.func 41) #[] #[], .string t] w fun e w' => e = .returned (.int .i64 (findX dx t)) ∧ Made w w' := by
  have eg : ∀ args w, (callFunc 41 args).run Tryz.prog w = .ok (.enter 41 args) w := enters_of Tryz.func41 (by kernel_rfl) rfl
  have HE := Lib.hid hE
  have HL := Lib.hid hn
  clear hE hn
  go_enter Tryz.func40, Tryz.ntmps40
  go_wp2
  go_loopw [11] (fun vi wr => ∃ k : Nat, vi = .int .i64 (k : Int) ∧ k ≤ n ∧ Made w wr ∧ Hid (∀ j, j < k → ∀ b, dx[j]? = some b → (fun x : DX => decide (x.nm = t)) b = false)) (fun vi _ => n - (intOf vi).toNat)
  case atStart => exact ⟨0, rfl, Nat.zero_le _, Made.refl _, Lib.hid fun j hj => absurd hj (by omega)⟩
  case round =>
    obtain ⟨k, rfl, hk, hm, HN⟩ := hrel
    have HM := Lib.hid hm
    clear hm
    by_cases hkn : k < n
    · obtain ⟨x, hx⟩ : ∃ x, dx[k]? = some x := ⟨_, List.getElem?_eq_getElem (by have := HL.out; omega)⟩
      obtain ⟨sb, so, rfl, _⟩ := HE.out.at_ hx
      have HEr := Lib.hid (HE.out.below HM.out.below)
      have c0 : wr.cell? ⟨sb, so + k * 3, none⟩ = some (.string x.nm) := HEr.out.get hx 0 rfl
      have c1 : wr.cell? ⟨sb, so + k * 3 + 1, none⟩ = some (.int .i64 x.dl) := HEr.out.get hx 1 rfl
      have c2 : wr.cell? ⟨sb, so + k * 3 + 2, none⟩ = some (.slice x.A x.n x.c) := HEr.out.get hx 2 rfl
      have HK := Lib.hid (fun W => keyD_any x W)
      by_cases he : x.nm = t
      · have HF : Hid (findX dx t = (k : Int)) := Lib.hid (idx_at hx (decide_eq_true he) HN.out)
        have q : (x.nm.toList == t.toList) = true := by rw [bytes_beq, decide_eq_true he]
        have HB := Lib.hid he
        clear he hx
        go_wp2_with (go_at_call 41; (with_reducible refine (HK.out _).mono ?_); rintro e w1 ⟨rfl, hb1⟩)
        go_ret
        exact ⟨by rw [HF.out]; rfl, HM.out.trans ((Made.alloc _ _).trans hb1)⟩
      · have q : (x.nm.toList == t.toList) = false := by rw [bytes_beq, decide_eq_false he]
        have HNx : Hid (∀ j, j < k + 1 → ∀ b, dx[j]? = some b → (fun x : DX => decide (x.nm = t)) b = false) := Lib.hid fun j hj b hb => by
          by_cases e : j = k
          · subst e
            rw [hx] at hb
            injection hb with hb
            subst hb
            exact decide_eq_false he
          · exact HN.out j (by omega) b hb
        clear he hx
        go_wp2_with (go_at_call 41; (with_reducible refine (HK.out _).mono ?_); rintro e w1 ⟨rfl, hb1⟩)
        go_roundw
        case rel => exact ⟨k + 1, by go_num, by omega, HM.out.trans ((Made.alloc _ _).trans hb1), HNx⟩
        case measure => simp only [intOf]; omega
    · have HF : Hid (findX dx t = -1) := Lib.hid (idx_end fun j b hb => HN.out j (by have := El.at_lt hb; have := HL.out; omega) b hb)
      go_wp2
      go_ret
      exact ⟨by rw [HF.out]; rfl, HM.out⟩
theorem keyS_any (x : Sg) (w : World) : Calls Tryz.prog 46 #[.agg #[.int .i64 x.id, .string x.dn, .int .i64 x.st, .int .i64 x.ph, .int .i64 x.sp, .int .i64 x.tr, .bool x.out, .int .i64 x.at_, .int .i64 x.sk]] w fun e w' => e = .returned (.int .i64 x.id) ∧ Made w w' := by
  go_enter Tryz.func46, Tryz.ntmps46
  go_wp2
  go_ret
  exact ⟨rfl, Made.alloc _ _⟩
set_option maxHeartbeats 2000000 in
set_option maxRecDepth 100000 in
theorem placeS_any (A : Option Addr) (n c : Nat) (gs : List Sg) (t : Int) (w : World) (hn : n = gs.length) (hb : n ≤ 9223372036854775807) (hE : Els sgc 9 w w.heap.size A gs) :
    Calls Tryz.prog 45 #[.slice A n c, .func (.func 46) #[] #[], .int .i64 t] w fun e w' => e = .returned (.int .i64 (findS gs t)) ∧ Made w w' := by
  have eg : ∀ args w, (callFunc 46 args).run Tryz.prog w = .ok (.enter 46 args) w := enters_of Tryz.func46 (by kernel_rfl) rfl
  have HE := Lib.hid hE
  have HL := Lib.hid hn
  clear hE hn
  go_enter Tryz.func45, Tryz.ntmps45
  go_wp2
  go_loopw [11] (fun vi wr => ∃ k : Nat, vi = .int .i64 (k : Int) ∧ k ≤ n ∧ Made w wr ∧ Hid (∀ j, j < k → ∀ b, gs[j]? = some b → (numbered t) b = false)) (fun vi _ => n - (intOf vi).toNat)
  case atStart => exact ⟨0, rfl, Nat.zero_le _, Made.refl _, Lib.hid fun j hj => absurd hj (by omega)⟩
  case round =>
    obtain ⟨k, rfl, hk, hm, HN⟩ := hrel
    have HM := Lib.hid hm
    clear hm
    by_cases hkn : k < n
    · obtain ⟨x, hx⟩ : ∃ x, gs[k]? = some x := ⟨_, List.getElem?_eq_getElem (by have := HL.out; omega)⟩
      obtain ⟨sb, so, rfl, _⟩ := HE.out.at_ hx
      have HEr := Lib.hid (HE.out.below HM.out.below)
      have c0 : wr.cell? ⟨sb, so + k * 9, none⟩ = some (.int .i64 x.id) := HEr.out.get hx 0 rfl
      have c1 : wr.cell? ⟨sb, so + k * 9 + 1, none⟩ = some (.string x.dn) := HEr.out.get hx 1 rfl
      have c2 : wr.cell? ⟨sb, so + k * 9 + 2, none⟩ = some (.int .i64 x.st) := HEr.out.get hx 2 rfl
      have c3 : wr.cell? ⟨sb, so + k * 9 + 3, none⟩ = some (.int .i64 x.ph) := HEr.out.get hx 3 rfl
      have c4 : wr.cell? ⟨sb, so + k * 9 + 4, none⟩ = some (.int .i64 x.sp) := HEr.out.get hx 4 rfl
      have c5 : wr.cell? ⟨sb, so + k * 9 + 5, none⟩ = some (.int .i64 x.tr) := HEr.out.get hx 5 rfl
      have c6 : wr.cell? ⟨sb, so + k * 9 + 6, none⟩ = some (.bool x.out) := HEr.out.get hx 6 rfl
      have c7 : wr.cell? ⟨sb, so + k * 9 + 7, none⟩ = some (.int .i64 x.at_) := HEr.out.get hx 7 rfl
      have c8 : wr.cell? ⟨sb, so + k * 9 + 8, none⟩ = some (.int .i64 x.sk) := HEr.out.get hx 8 rfl
      have HK := Lib.hid (fun W => keyS_any x W)
      by_cases he : x.id = t
      · have HF : Hid (findS gs t = (k : Int)) := Lib.hid (idx_at hx (decide_eq_true he) HN.out)
        have q : (x.id == t) = true := by simpa using he
        have HB := Lib.hid he
        clear he hx
        go_wp2_with (go_at_call 46; (with_reducible refine (HK.out _).mono ?_); rintro e w1 ⟨rfl, hb1⟩)
        go_ret
        exact ⟨by rw [HF.out]; rfl, HM.out.trans ((Made.alloc _ _).trans hb1)⟩
      · have q : (x.id == t) = false := by simpa using he
        have HNx : Hid (∀ j, j < k + 1 → ∀ b, gs[j]? = some b → (numbered t) b = false) := Lib.hid fun j hj b hb => by
          by_cases e : j = k
          · subst e
            rw [hx] at hb
            injection hb with hb
            subst hb
            exact decide_eq_false he
          · exact HN.out j (by omega) b hb
        clear he hx
        go_wp2_with (go_at_call 46; (with_reducible refine (HK.out _).mono ?_); rintro e w1 ⟨rfl, hb1⟩)
        go_roundw
        case rel => exact ⟨k + 1, by go_num, by omega, HM.out.trans ((Made.alloc _ _).trans hb1), HNx⟩
        case measure => simp only [intOf]; omega
    · have HF : Hid (findS gs t = -1) := Lib.hid (idx_end fun j b hb => HN.out j (by have := El.at_lt hb; have := HL.out; omega) b hb)
      go_wp2
      go_ret
      exact ⟨by rw [HF.out]; rfl, HM.out⟩
theorem res_D_tmp {fn : Func} {p u : Tmp} (h : fn.results = #[.cell p 33, .tmp u]) (tmps : Array Value) (w : World) (g : Nat) (cs : Array Value) (hs : cs.size = 3)
    (hp : tmps.getD p undef = .pointer (some ⟨g, 0, none⟩)) (hg : Box w g 33 cs) : (results fn tmps).run Tryz.prog w = .ok (.tuple #[.agg cs, tmps.getD u undef]) w := by
  have hi : (Tryz.prog.info? 33).map (·.size) = some cs.size := by
    rw [hs]
    kernel_rfl
  rw [results_cell_tmp h, hp]
  simp only [asAddr, Sem.run_pure, Result.andThen_ok, run_loadVar_row w g _ 33 _ _ _ hg Tryz.underlying33 rfl hi]
set_option maxHeartbeats 2000000 in
set_option maxRecDepth 100000 in
theorem foundD_no (A : Option Addr) (n c : Nat) (dx : List DX) (t : ByteArray) (w : World) (hn : n = dx.length) (hb : n ≤ 9223372036854775807) (hE : Els DX.cells 3 w w.heap.size A dx) (hf : findX dx t = -1) :
    Calls Tryz.prog 43 #[.slice A n c, .func (.func 41) #[] #[], .string t] w fun e w' => e = .returned (.tuple #[.agg #[.string ⟨#[]⟩, .int .i64 0, .slice none 0 0], .bool false]) ∧ Below w.heap.size w w' := by
  have HB := Lib.hid ((Below.refl w.heap.size w).alloc (Nat.le_refl _) (.cells #[.string ⟨#[]⟩, .int .i64 0, .slice none 0 0] 33))
  have HX := Lib.hid (Box.new w 33 #[.string ⟨#[]⟩, .int .i64 0, .slice none 0 0])
  have HP := Lib.hid (placeD_any A n c dx t (w.alloc (.cells #[.string ⟨#[]⟩, .int .i64 0, .slice none 0 0] 33)) hn hb (hE.on HB.out))
  rw [hf] at HP
  clear hn hE hf
  go_enter Tryz.func43, Tryz.ntmps43
  go_wp2_with (go_at_call 40; (with_reducible refine HP.out.mono ?_); rintro e w1 ⟨rfl, hm⟩; have HX1 := Lib.hid (HX.out.below hm.below HX.out.lt); have HM := Lib.hid hm.below; clear hm; have hlt := HX1.out.lt; have d0 := HX1.out.cell 0; have d1 := HX1.out.cell 1; have d2 := HX1.out.cell 2; have f0 := HX1.out.frozen 0; have f1 := HX1.out.frozen 1; have f2 := HX1.out.frozen 2; simp only [List.getElem?_toArray, List.getElem?_cons_zero, List.getElem?_cons_succ] at d0 d1 d2)
  refine bodyPost_ret (res_D_tmp rfl _ _ w.heap.size #[.string ⟨#[]⟩, .int .i64 0, .slice none 0 0] rfl rfl ?_) rfl ⟨rfl, ?_⟩
  · exact (((HX1.out.put 0 (.string ⟨#[]⟩)).put 1 (.int .i64 0)).put 2 (.slice none 0 0)).alloc _
  · exact Below.alloc (below_put (below_put (below_put (HB.out.trans (HM.out.mono HB.out.size)) (Nat.le_refl _) _ _) (Nat.le_refl _) _ _) (Nat.le_refl _) _ _) (by simp [World.setCell]; omega) _
set_option maxHeartbeats 2000000 in
set_option maxRecDepth 100000 in
theorem foundD_yes (A : Option Addr) (n c : Nat) (dx : List DX) (t : ByteArray) (w : World) (hn : n = dx.length) (hb : n ≤ 9223372036854775807) (hE : Els DX.cells 3 w w.heap.size A dx) (i : Nat) (x : DX) (hx : dx[i]? = some x) (hf : findX dx t = (i : Int)) :
    Calls Tryz.prog 43 #[.slice A n c, .func (.func 41) #[] #[], .string t] w fun e w' => e = .returned (.tuple #[.agg #[.string x.nm, .int .i64 x.dl, .slice x.A x.n x.c], .bool true]) ∧ Below w.heap.size w w' := by
  have HB := Lib.hid ((Below.refl w.heap.size w).alloc (Nat.le_refl _) (.cells #[.string ⟨#[]⟩, .int .i64 0, .slice none 0 0] 33))
  have HX := Lib.hid (Box.new w 33 #[.string ⟨#[]⟩, .int .i64 0, .slice none 0 0])
  have HP := Lib.hid (placeD_any A n c dx t (w.alloc (.cells #[.string ⟨#[]⟩, .int .i64 0, .slice none 0 0] 33)) hn hb (hE.on HB.out))
  rw [hf] at HP
  have hin : i < n := by have := El.at_lt hx; omega
  obtain ⟨sb, so, rfl, hsb⟩ := hE.at_ hx
  have HE := Lib.hid hE
  have HXx := Lib.hid hx
  clear hn hE hf hx
  go_enter Tryz.func43, Tryz.ntmps43
  go_wp2_with (go_at_call 40; (with_reducible refine HP.out.mono ?_); rintro e w1 ⟨rfl, hm⟩; have HX1 := Lib.hid (HX.out.below hm.below HX.out.lt); have HM := Lib.hid hm.below; clear hm; have hlt := HX1.out.lt; have d0 := HX1.out.cell 0; have d1 := HX1.out.cell 1; have d2 := HX1.out.cell 2; have f0 := HX1.out.frozen 0; have f1 := HX1.out.frozen 1; have f2 := HX1.out.frozen 2; simp only [List.getElem?_toArray, List.getElem?_cons_zero, List.getElem?_cons_succ] at d0 d1 d2; have HE1 := Lib.hid (HE.out.below (HB.out.trans (HM.out.mono HB.out.size))); have e0 : w1.cell? ⟨sb, so + i * 3, none⟩ = some (.string x.nm) := HE1.out.get HXx.out 0 rfl; have e1 : w1.cell? ⟨sb, so + i * 3 + 1, none⟩ = some (.int .i64 x.dl) := HE1.out.get HXx.out 1 rfl; have e2 : w1.cell? ⟨sb, so + i * 3 + 2, none⟩ = some (.slice x.A x.n x.c) := HE1.out.get HXx.out 2 rfl)
  refine bodyPost_ret (res_D_tmp rfl _ _ w.heap.size #[.string x.nm, .int .i64 x.dl, .slice x.A x.n x.c] rfl rfl ?_) rfl ⟨rfl, ?_⟩
  · exact ((HX1.out.put 0 (.string x.nm)).put 1 (.int .i64 x.dl)).put 2 (.slice x.A x.n x.c)
  · exact below_put (below_put (below_put (HB.out.trans (HM.out.mono HB.out.size)) (Nat.le_refl _) _ _) (Nat.le_refl _) _ _) (Nat.le_refl _) _ _
set_option maxHeartbeats 2000000 in
set_option maxRecDepth 100000 in
theorem rfindD_any (y : SV) (t : ByteArray) (w : World) (hy : SIn w y) (hb : y.nD ≤ 9223372036854775807) : Calls Tryz.prog 11 #[.agg #[.slice y.AD y.nD y.cD, .slice y.AS y.nS y.cS, .int .i64 y.nx], .string t] w fun e w' => e = .returned (.int .i64 (findX y.dx t)) ∧ Made w w' := by
  have HL := Lib.hid hy.lD
  have HE := Lib.hid ((hy.hD).on ((Below.refl w.heap.size w).alloc (Nat.le_refl _) (.cells #[.slice y.AD y.nD y.cD, .slice y.AS y.nS y.cS, .int .i64 y.nx] 27)))
  have HM := Lib.hid (Made.alloc w (.cells #[.slice y.AD y.nD y.cD, .slice y.AS y.nS y.cS, .int .i64 y.nx] 27))
  have HX := Lib.hid (Box.new w 27 #[.slice y.AD y.nD y.cD, .slice y.AS y.nS y.cS, .int .i64 y.nx])
  clear hy
  obtain ⟨yAD, ynD, ycD, yAS, ynS, ycS, ynx, ydx, ygs⟩ := y
  dsimp only at *
  go_enter Tryz.func11, Tryz.ntmps11
  go_upto_region 1 with fail
  generalize w.alloc (.cells #[.slice yAD ynD ycD, .slice yAS ynS ycS, .int .i64 ynx] 27) = W0 at *
  have c0 : W0.cell? ⟨w.heap.size, 0, none⟩ = some (.slice yAD ynD ycD) := HX.out.cell 0
  have c1 : W0.cell? ⟨w.heap.size, 1, none⟩ = some (.slice yAS ynS ycS) := HX.out.cell 1
  go_wp2
  go_loopw [5] (fun vi wr => ∃ k : Nat, vi = .int .i64 (k : Int) ∧ k ≤ ynD ∧ wr = W0 ∧ Hid (∀ j, j < k → ∀ b, ydx[j]? = some b → (fun x : DX => decide (x.nm = t)) b = false)) (fun vi _ => ynD - (intOf vi).toNat)
  case atStart => exact ⟨0, rfl, Nat.zero_le _, rfl, Lib.hid fun j hj => absurd hj (by omega)⟩
  case round =>
    obtain ⟨k, rfl, hk, rfl, HN⟩ := hrel
    by_cases hkn : k < ynD
    · obtain ⟨x, hx⟩ : ∃ x, ydx[k]? = some x := ⟨_, List.getElem?_eq_getElem (by have := HL.out; omega)⟩
      obtain ⟨sb, so, rfl, _⟩ := HE.out.at_ hx
      have e0 : wr.cell? ⟨sb, so + k * 3, none⟩ = some (.string x.nm) := HE.out.get hx 0 rfl
      by_cases he : x.nm = t
      · have HF : Hid (findX ydx t = (k : Int)) := Lib.hid (idx_at hx (decide_eq_true he) HN.out)
        have q : (x.nm.toList == t.toList) = true := by rw [bytes_beq, decide_eq_true he]
        clear he hx
        go_wp2
        go_ret
        exact ⟨by rw [HF.out]; rfl, HM.out⟩
      · have q : (x.nm.toList == t.toList) = false := by rw [bytes_beq, decide_eq_false he]
        have HNx : Hid (∀ j, j < k + 1 → ∀ b, ydx[j]? = some b → (fun x : DX => decide (x.nm = t)) b = false) := Lib.hid fun j hj b hb => by
          by_cases e : j = k
          · subst e
            rw [hx] at hb
            injection hb with hb
            subst hb
            exact decide_eq_false he
          · exact HN.out j (by omega) b hb
        clear he hx
        go_wp2
        go_roundw
        case rel => exact ⟨k + 1, by go_num, by omega, by simp, HNx⟩
        case measure => simp only [intOf]; omega
    · have HF : Hid (findX ydx t = -1) := Lib.hid (idx_end fun j b hb => HN.out j (by have := El.at_lt hb; have := HL.out; omega) b hb)
      go_wp2
      go_ret
      exact ⟨by rw [HF.out]; rfl, HM.out⟩
set_option maxHeartbeats 2000000 in
set_option maxRecDepth 100000 in
theorem rfindS_any (y : SV) (t : Int) (w : World) (hy : SIn w y) (hb : y.nS ≤ 9223372036854775807) : Calls Tryz.prog 13 #[.agg #[.slice y.AD y.nD y.cD, .slice y.AS y.nS y.cS, .int .i64 y.nx], .int .i64 t] w fun e w' => e = .returned (.int .i64 (findS y.gs t)) ∧ Made w w' := by
  have HL := Lib.hid hy.lS
  have HE := Lib.hid ((hy.hS).on ((Below.refl w.heap.size w).alloc (Nat.le_refl _) (.cells #[.slice y.AD y.nD y.cD, .slice y.AS y.nS y.cS, .int .i64 y.nx] 27)))
  have HM := Lib.hid (Made.alloc w (.cells #[.slice y.AD y.nD y.cD, .slice y.AS y.nS y.cS, .int .i64 y.nx] 27))
  have HX := Lib.hid (Box.new w 27 #[.slice y.AD y.nD y.cD, .slice y.AS y.nS y.cS, .int .i64 y.nx])
  clear hy
  obtain ⟨yAD, ynD, ycD, yAS, ynS, ycS, ynx, ydx, ygs⟩ := y
  dsimp only at *
  go_enter Tryz.func13, Tryz.ntmps13
  go_upto_region 1 with fail
  generalize w.alloc (.cells #[.slice yAD ynD ycD, .slice yAS ynS ycS, .int .i64 ynx] 27) = W0 at *
  have c0 : W0.cell? ⟨w.heap.size, 0, none⟩ = some (.slice yAD ynD ycD) := HX.out.cell 0
  have c1 : W0.cell? ⟨w.heap.size, 1, none⟩ = some (.slice yAS ynS ycS) := HX.out.cell 1
  go_wp2
  go_loopw [5] (fun vi wr => ∃ k : Nat, vi = .int .i64 (k : Int) ∧ k ≤ ynS ∧ wr = W0 ∧ Hid (∀ j, j < k → ∀ b, ygs[j]? = some b → (numbered t) b = false)) (fun vi _ => ynS - (intOf vi).toNat)
  case atStart => exact ⟨0, rfl, Nat.zero_le _, rfl, Lib.hid fun j hj => absurd hj (by omega)⟩
  case round =>
    obtain ⟨k, rfl, hk, rfl, HN⟩ := hrel
    by_cases hkn : k < ynS
    · obtain ⟨x, hx⟩ : ∃ x, ygs[k]? = some x := ⟨_, List.getElem?_eq_getElem (by have := HL.out; omega)⟩
      obtain ⟨sb, so, rfl, _⟩ := HE.out.at_ hx
      have e0 : wr.cell? ⟨sb, so + k * 9, none⟩ = some (.int .i64 x.id) := HE.out.get hx 0 rfl
      by_cases he : x.id = t
      · have HF : Hid (findS ygs t = (k : Int)) := Lib.hid (idx_at hx (decide_eq_true he) HN.out)
        have q : (x.id == t) = true := by simpa using he
        clear he hx
        go_wp2
        go_ret
        exact ⟨by rw [HF.out]; rfl, HM.out⟩
      · have q : (x.id == t) = false := by simpa using he
        have HNx : Hid (∀ j, j < k + 1 → ∀ b, ygs[j]? = some b → (numbered t) b = false) := Lib.hid fun j hj b hb => by
          by_cases e : j = k
          · subst e
            rw [hx] at hb
            injection hb with hb
            subst hb
            exact decide_eq_false he
          · exact HN.out j (by omega) b hb
        clear he hx
        go_wp2
        go_roundw
        case rel => exact ⟨k + 1, by go_num, by omega, by simp, HNx⟩
        case measure => simp only [intOf]; omega
    · have HF : Hid (findS ygs t = -1) := Lib.hid (idx_end fun j b hb => HN.out j (by have := El.at_lt hb; have := HL.out; omega) b hb)
      go_wp2
      go_ret
      exact ⟨by rw [HF.out]; rfl, HM.out⟩
end Go.Proofs.YteejocnogpaifaaGreatDoor.Tt
