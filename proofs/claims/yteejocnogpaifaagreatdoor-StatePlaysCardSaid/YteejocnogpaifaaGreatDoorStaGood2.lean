/-
  What goodDefs, goodSagas and Good of package state answer; slices.IndexFunc and ContainsFunc at definitions and sagas.
  Conditions: the state lies in memory; texts are of a moderate size.
-/
import Derived.Test.YteejocnogpaifaaGreatDoorStaGood
import Derived.Test.YteejocnogpaifaaGreatDoorSagMay
namespace Go.Proofs.YteejocnogpaifaaGreatDoor.Tt
open Go.RowKit
open Go.Proofs.YteejocnogpaifaaGreatDoor.El
open Go.Proofs.YteejocnogpaifaaGreatDoor.Df
open Go.Proofs.YteejocnogpaifaaGreatDoor.Bo (P Made ret_int ret_bool)
open Go.Proofs.YteejocnogpaifaaGreatDoor.Sa (Sg Cm Dn GoodS)
open Go.Proofs.YteejocnogpaifaaGreatDoor.Co (Ev Mod)

section
variable (dx : List DX) (p : DX → Bool) (A : Option Addr) (n c : Nat) (w : World) (hn : n = dx.length) (hb : n ≤ 1000000000) (hE : Els DX.cells 3 w w.heap.size A dx)
  (hP : ∀ x ∈ dx, ∀ W, Below w.heap.size w W → Calls Tryz.prog 63 #[.agg #[.string x.nm, .int .i64 x.dl, .slice x.A x.n x.c]] W fun e w' => e = .returned (.bool (p x)) ∧ Below W.heap.size W w')
include hn hb hE hP
set_option maxHeartbeats 4000000 in
set_option maxRecDepth 100000 in
theorem indexD_any : Calls Tryz.prog 95 #[.slice A n c, .func (.func 63) #[] #[]] w fun e w' => ∃ r : Int, e = .returned (.int .i64 r) ∧ decide (0 ≤ r) = dx.any p ∧ Below w.heap.size w w' := by
  have eg : ∀ args w, (callFunc 63 args).run Tryz.prog w = .ok (.enter 63 args) w := enters_of Tryz.func63 (by kernel_rfl) rfl
  have HE := Lib.hid hE
  have HL := Lib.hid hn
  have HP := Lib.hid hP
  clear hE hn hP
  go_enter Tryz.func95, Tryz.ntmps95
  go_wp2
  go_loopw [8] (fun vi wr => ∃ k : Nat, vi = .int .i64 (k : Int) ∧ k ≤ n ∧ Below w.heap.size w wr ∧ Hid (∀ j x, j < k → dx[j]? = some x → p x = false)) (fun vi _ => n - (intOf vi).toNat)
  case atStart => exact ⟨0, rfl, Nat.zero_le _, Below.refl _ _, Lib.hid fun j y hj => absurd hj (by omega)⟩
  case round =>
    obtain ⟨k, rfl, hk, hbw, HN⟩ := hrel
    have HB := Lib.hid hbw
    clear hbw
    by_cases hkn : k < n
    · obtain ⟨x, hx⟩ : ∃ x, dx[k]? = some x := ⟨_, List.getElem?_eq_getElem (by have := HL.out; omega)⟩
      obtain ⟨sb, so, rfl, _⟩ := HE.out.at_ hx
      have HEr := Lib.hid (HE.out.below HB.out)
      have c0 : wr.cell? ⟨sb, so + k * 3, none⟩ = some (.string x.nm) := HEr.out.get hx 0 rfl
      have c1 : wr.cell? ⟨sb, so + k * 3 + 1, none⟩ = some (.int .i64 x.dl) := HEr.out.get hx 1 rfl
      have c2 : wr.cell? ⟨sb, so + k * 3 + 2, none⟩ = some (.slice x.A x.n x.c) := HEr.out.get hx 2 rfl
      have HK := Lib.hid (HP.out x (List.mem_of_getElem? hx) wr HB.out)
      cases hp : p x with
      | true =>
        rw [hp] at HK
        have HF : Hid (dx.any p = true) := Lib.hid (any_at hx hp)
        clear hx hp
        go_wp2_with (go_at_call 63; (with_reducible refine HK.out.mono ?_); rintro e w1 ⟨rfl, hb1⟩)
        go_ret
        exact ⟨_, rfl, by rw [HF.out]; simp, HB.out.trans (hb1.mono HB.out.size)⟩
      | false =>
        rw [hp] at HK
        have HNx : Hid (∀ j y, j < k + 1 → dx[j]? = some y → p y = false) := Lib.hid fun j y hj hy => by
          by_cases e : j = k
          · subst e
            rw [hx] at hy
            injection hy with hy
            subst hy
            exact hp
          · exact HN.out j y (by omega) hy
        clear hx hp
        go_wp2_with (go_at_call 63; (with_reducible refine HK.out.mono ?_); rintro e w1 ⟨rfl, hb1⟩)
        go_roundw
        case rel => exact ⟨k + 1, by go_num, by omega, HB.out.trans (hb1.mono HB.out.size), HNx⟩
        case measure => simp only [intOf]; omega
    · have HF : Hid (dx.any p = false) := Lib.hid (any_not fun j x hx => HN.out j x (by have := El.at_lt hx; have := HL.out; omega) hx)
      go_wp2
      go_ret
      exact ⟨_, rfl, by rw [HF.out]; rfl, HB.out⟩
set_option maxHeartbeats 1000000 in
theorem containsD_any : Calls Tryz.prog 66 #[.slice A n c, .func (.func 63) #[] #[]] w fun e w' => e = .returned (.bool (dx.any p)) ∧ Below w.heap.size w w' := by
  have HI := Lib.hid (indexD_any dx p A n c w hn hb hE hP)
  clear hE hn hP
  go_enter Tryz.func66, Tryz.ntmps66
  go_wp2_with (go_at_call 95; (with_reducible refine HI.out.mono ?_); rintro e w1 ⟨r, rfl, hr, hb⟩; have HR := Lib.hid hr; clear hr)
  go_ret
  exact ⟨ret_bool HR.out, hb⟩
end
section
variable (gs : List Sg) (p : Sg → Bool) (A : Option Addr) (n c : Nat) (b : Nat) (w : World) (hn : n = gs.length) (hb : n ≤ 1000000000) (hE : Els sgc 9 w w.heap.size A gs)
  (hP : ∀ x ∈ gs, ∀ W, Below w.heap.size w W → Calls Tryz.prog 67 #[.agg #[.int .i64 x.id, .string x.dn, .int .i64 x.st, .int .i64 x.ph, .int .i64 x.sp, .int .i64 x.tr, .bool x.out, .int .i64 x.at_, .int .i64 x.sk], .pointer (some ⟨b, 0, none⟩)] W fun e w' => e = .returned (.bool (p x)) ∧ Below W.heap.size W w')
include hn hb hE hP
set_option maxHeartbeats 4000000 in
set_option maxRecDepth 100000 in
theorem indexS_any : Calls Tryz.prog 97 #[.slice A n c, .func (.func 67) #[] #[.pointer (some ⟨b, 0, none⟩)]] w fun e w' => ∃ r : Int, e = .returned (.int .i64 r) ∧ decide (0 ≤ r) = gs.any p ∧ Below w.heap.size w w' := by
  have eg : ∀ args w, (callFunc 67 args).run Tryz.prog w = .ok (.enter 67 args) w := enters_of Tryz.func67 (by kernel_rfl) rfl
  have HE := Lib.hid hE
  have HL := Lib.hid hn
  have HP := Lib.hid hP
  clear hE hn hP
  go_enter Tryz.func97, Tryz.ntmps97
  go_wp2
  go_loopw [8] (fun vi wr => ∃ k : Nat, vi = .int .i64 (k : Int) ∧ k ≤ n ∧ Below w.heap.size w wr ∧ Hid (∀ j x, j < k → gs[j]? = some x → p x = false)) (fun vi _ => n - (intOf vi).toNat)
  case atStart => exact ⟨0, rfl, Nat.zero_le _, Below.refl _ _, Lib.hid fun j y hj => absurd hj (by omega)⟩
  case round =>
    obtain ⟨k, rfl, hk, hbw, HN⟩ := hrel
    have HB := Lib.hid hbw
    clear hbw
    by_cases hkn : k < n
    · obtain ⟨x, hx⟩ : ∃ x, gs[k]? = some x := ⟨_, List.getElem?_eq_getElem (by have := HL.out; omega)⟩
      obtain ⟨sb, so, rfl, _⟩ := HE.out.at_ hx
      have HEr := Lib.hid (HE.out.below HB.out)
      have c0 : wr.cell? ⟨sb, so + k * 9, none⟩ = some (.int .i64 x.id) := HEr.out.get hx 0 rfl
      have c1 : wr.cell? ⟨sb, so + k * 9 + 1, none⟩ = some (.string x.dn) := HEr.out.get hx 1 rfl
      have c2 : wr.cell? ⟨sb, so + k * 9 + 2, none⟩ = some (.int .i64 x.st) := HEr.out.get hx 2 rfl
      have c3 : wr.cell? ⟨sb, so + k * 9 + 3, none⟩ = some (.int .i64 x.ph) := HEr.out.get hx 3 rfl
      have c4 : wr.cell? ⟨sb, so + k * 9 + 4, none⟩ = some (.int .i64 x.sp) := HEr.out.get hx 4 rfl
      have c5 : wr.cell? ⟨sb, so + k * 9 + 5, none⟩ = some (.int .i64 x.tr) := HEr.out.get hx 5 rfl
      have c6 : wr.cell? ⟨sb, so + k * 9 + 6, none⟩ = some (.bool x.out) := HEr.out.get hx 6 rfl
      have c7 : wr.cell? ⟨sb, so + k * 9 + 7, none⟩ = some (.int .i64 x.at_) := HEr.out.get hx 7 rfl
      have c8 : wr.cell? ⟨sb, so + k * 9 + 8, none⟩ = some (.int .i64 x.sk) := HEr.out.get hx 8 rfl
      have HK := Lib.hid (HP.out x (List.mem_of_getElem? hx) wr HB.out)
      cases hp : p x with
      | true =>
        rw [hp] at HK
        have HF : Hid (gs.any p = true) := Lib.hid (any_at hx hp)
        clear hx hp
        go_wp2_with (go_at_call 67; (with_reducible refine HK.out.mono ?_); rintro e w1 ⟨rfl, hb1⟩)
        go_ret
        exact ⟨_, rfl, by rw [HF.out]; simp, HB.out.trans (hb1.mono HB.out.size)⟩
      | false =>
        rw [hp] at HK
        have HNx : Hid (∀ j y, j < k + 1 → gs[j]? = some y → p y = false) := Lib.hid fun j y hj hy => by
          by_cases e : j = k
          · subst e
            rw [hx] at hy
            injection hy with hy
            subst hy
            exact hp
          · exact HN.out j y (by omega) hy
        clear hx hp
        go_wp2_with (go_at_call 67; (with_reducible refine HK.out.mono ?_); rintro e w1 ⟨rfl, hb1⟩)
        go_roundw
        case rel => exact ⟨k + 1, by go_num, by omega, HB.out.trans (hb1.mono HB.out.size), HNx⟩
        case measure => simp only [intOf]; omega
    · have HF : Hid (gs.any p = false) := Lib.hid (any_not fun j x hx => HN.out j x (by have := El.at_lt hx; have := HL.out; omega) hx)
      go_wp2
      go_ret
      exact ⟨_, rfl, by rw [HF.out]; rfl, HB.out⟩
set_option maxHeartbeats 1000000 in
theorem containsS_any : Calls Tryz.prog 70 #[.slice A n c, .func (.func 67) #[] #[.pointer (some ⟨b, 0, none⟩)]] w fun e w' => e = .returned (.bool (gs.any p)) ∧ Below w.heap.size w w' := by
  have HI := Lib.hid (indexS_any gs p A n c b w hn hb hE hP)
  clear hE hn hP
  go_enter Tryz.func70, Tryz.ntmps70
  go_wp2_with (go_at_call 97; (with_reducible refine HI.out.mono ?_); rintro e w1 ⟨r, rfl, hr, hb⟩; have HR := Lib.hid hr; clear hr)
  go_ret
  exact ⟨ret_bool HR.out, hb⟩
end

theorem chkX (x : DX) (w : World) (hx : DIn w x) : Calls Tryz.prog 64 #[.agg #[.string x.nm, .int .i64 x.dl, .slice x.A x.n x.c]] w fun e w' => ∃ k ev : Int, e = .returned (.tuple #[.int .i64 k, .int .i64 ev]) ∧ rX x = decide (ev = 0) ∧ Below w.heap.size w w' :=
  (check_any x.nm x.dl x.A x.c x.ss x.n w hx.en (by have := hx.en; have := hx.mod.2.1; omega) hx.cap hx.mem (by have := hx.mod.1; omega) (fun s hs => by have := hx.mod.2.2 s hs; omega)).mono fun e w' ⟨k, ev, h1, h2, h3⟩ => ⟨k, ev, h1, Co.chk_right h2, h3⟩
set_option maxHeartbeats 1000000 in
set_option maxRecDepth 100000 in
theorem wrongD_any (x : DX) (w : World) (hx : DIn w x) : Calls Tryz.prog 63 #[.agg #[.string x.nm, .int .i64 x.dl, .slice x.A x.n x.c]] w fun e w' => e = .returned (.bool (!rX x)) ∧ Below w.heap.size w w' := by
  have HB := Lib.hid ((Below.refl w.heap.size w).alloc (Nat.le_refl _) (.cells #[.string x.nm, .int .i64 x.dl, .slice x.A x.n x.c] 33))
  have HC := Lib.hid (chkX x _ (hx.on HB.out))
  clear hx
  go_enter Tryz.func63, Tryz.ntmps63
  go_wp2_with (go_at_call 64; (with_reducible refine HC.out.mono ?_); rintro e w1 ⟨k, ev, rfl, hk, hb⟩; have HK := Lib.hid hk; clear hk)
  go_ret
  refine ⟨ret_bool ?_, HB.out.trans (hb.mono HB.out.size)⟩
  rw [HK.out]
  by_cases h : ev = 0 <;> simp [h]
section
variable (dx : List DX) (A : Option Addr) (n c : Nat) (w : World) (hn : n = dx.length) (hb : n ≤ 1000000000) (hE : Els DX.cells 3 w w.heap.size A dx) (hI : ∀ d ∈ dx, DIn w d)
include hn hb hE hI
set_option maxHeartbeats 2000000 in
set_option maxRecDepth 100000 in
theorem goodDefs_any : Calls Tryz.prog 30 #[.slice A n c] w fun e w' => e = .returned (.bool (okD dx)) ∧ Below w.heap.size w w' := by
  have HR := Lib.hid (risingD_any dx A n c w hn hb hE)
  have HC := Lib.hid (fun W (hW : Below w.heap.size w W) => containsD_any dx (fun x => !rX x) A n c W hn hb (hE.on hW) (fun x hx V hV => wrongD_any x V (((hI x hx).on hW).on hV)))
  by_cases hl : n ≤ 64
  · have ql : decide (n ≤ 64) = true := decide_eq_true hl
    have HO : Hid (okD dx = (risesD dx && !(dx.any fun x => !rX x))) := Lib.hid (by unfold okD; rw [← hn, ql]; rfl)
    have hl2 : (n : Int) ≤ 64 := by omega
    clear hE hI hn ql
    cases hr : risesD dx with
    | true =>
      rw [hr] at HR HO
      clear hr
      go_enter Tryz.func30, Tryz.ntmps30
      go_wp2_with (first
        | (go_at_call 65; (with_reducible refine HR.out.mono ?_); rintro e w1 ⟨rfl, hb1⟩)
        | (go_at_call 66; (with_reducible refine (HC.out _ hb1).mono ?_); rintro e w2 ⟨rfl, hb2⟩))
      go_ret
      exact ⟨ret_bool (by rw [HO.out]; rfl), hb1.trans (hb2.mono hb1.size)⟩
    | false =>
      rw [hr] at HR HO
      clear hr
      go_enter Tryz.func30, Tryz.ntmps30
      go_wp2_with (go_at_call 65; (with_reducible refine HR.out.mono ?_); rintro e w1 ⟨rfl, hb1⟩)
      go_ret
      exact ⟨ret_bool (by rw [HO.out]; rfl), hb1⟩
  · have HO : Hid (okD dx = false) := Lib.hid (by unfold okD; rw [← hn, decide_eq_false hl]; rfl)
    have hl2 : ¬ (n : Int) ≤ 64 := by omega
    clear hE hI hn HR HC
    go_enter Tryz.func30, Tryz.ntmps30
    go_wp2
    go_ret
    exact ⟨ret_bool (by rw [HO.out]), Below.refl _ _⟩
end
/-- a state in a block, and what else has been made since -/
theorem sv_cells {w : World} {b : Nat} {x : SV} (h : Box w b 27 x.arr) : w.cell? ⟨b, 0, none⟩ = some (.slice x.AD x.nD x.cD) ∧ w.cell? ⟨b, 1, none⟩ = some (.slice x.AS x.nS x.cS) ∧ w.cell? ⟨b, 2, none⟩ = some (.int .i64 x.nx) := ⟨h.cell 0, h.cell 1, h.cell 2⟩
end Go.Proofs.YteejocnogpaifaaGreatDoor.Tt
