/-
  What the program's Good answers of a state: its rows rise, its definitions are right, its sagas are Good and their definitions are there.
  Conditions: the state lies in memory; texts are of a moderate size.
-/
import Derived.Test.YteejocnogpaifaaGreatDoorStaFind
import Derived.Test.YteejocnogpaifaaGreatDoorDefCheck
import Derived.Test.YteejocnogpaifaaGreatDoorSagGood
import Derived.Deep.RegionHeld3
import Derived.Laws.Cover1
namespace Go.Proofs.YteejocnogpaifaaGreatDoor.Tt
open Go.RowKit
open Go.Proofs.YteejocnogpaifaaGreatDoor.El
open Go.Proofs.YteejocnogpaifaaGreatDoor.Df
open Go.Proofs.YteejocnogpaifaaGreatDoor.Bo (P Made ret_int ret_bool)
open Go.Proofs.YteejocnogpaifaaGreatDoor.Sa (Sg Cm Dn GoodS)
open Go.Proofs.YteejocnogpaifaaGreatDoor.Co (Ev Mod)

/-! ### Mathematics -/
theorem pair_adj {α : Type} {R : α → α → Prop} (tr : ∀ a b c, R a b → R b c → R a c) : ∀ l : List α, (∀ (i : Nat) (a b : α), l[i]? = some a → l[i + 1]? = some b → R a b) → l.Pairwise R
  | [], _ => List.Pairwise.nil
  | [a], _ => List.pairwise_singleton _ _
  | a :: b :: r, h => by
    have ih := pair_adj tr (b :: r) (fun i x y hx hy => h (i + 1) x y (by simpa using hx) (by simpa using hy))
    have hab := h 0 a b rfl rfl
    refine List.pairwise_cons.2 ⟨fun c hc => ?_, ih⟩
    rcases List.mem_cons.1 hc with rfl | hc
    · exact hab
    · exact tr _ _ _ hab ((List.pairwise_cons.1 ih).1 c hc)
def risesD (l : List DX) : Bool := decide (l.Pairwise fun a b => ltB a.nm b.nm = true)
def risesS (l : List Sg) : Bool := decide (l.Pairwise fun a b => a.id < b.id)
theorem risesD_yes {l : List DX} (h : ∀ (i : Nat) (a b : DX), l[i]? = some a → l[i + 1]? = some b → ltB a.nm b.nm = true) : risesD l = true :=
  decide_eq_true (pair_adj (R := fun a b : DX => ltB a.nm b.nm = true) (fun _ _ _ h1 h2 => lt_tr h1 h2) l h)
theorem risesD_no {l : List DX} {i : Nat} {a b : DX} (ha : l[i]? = some a) (hb : l[i + 1]? = some b) (h : ltB a.nm b.nm = false) : risesD l = false :=
  decide_eq_false fun hp => by
    obtain ⟨hi, rfl⟩ := List.getElem?_eq_some_iff.1 ha
    obtain ⟨hj, rfl⟩ := List.getElem?_eq_some_iff.1 hb
    have := List.pairwise_iff_getElem.1 hp i (i + 1) hi hj (by omega)
    rw [h] at this; cases this
theorem risesS_yes {l : List Sg} (h : ∀ (i : Nat) (a b : Sg), l[i]? = some a → l[i + 1]? = some b → a.id < b.id) : risesS l = true :=
  decide_eq_true (pair_adj (fun _ _ _ h1 h2 => by omega) l h)
theorem risesS_no {l : List Sg} {i : Nat} {a b : Sg} (ha : l[i]? = some a) (hb : l[i + 1]? = some b) (h : ¬ a.id < b.id) : risesS l = false :=
  decide_eq_false fun hp => by
    obtain ⟨hi, rfl⟩ := List.getElem?_eq_some_iff.1 ha
    obtain ⟨hj, rfl⟩ := List.getElem?_eq_some_iff.1 hb
    exact h (List.pairwise_iff_getElem.1 hp i (i + 1) hi hj (by omega))
def rX (x : DX) : Bool := Co.rightB x.nm x.dl x.ss
theorem rX_iff {x : DX} : rX x = true ↔ Sa.RightD x.nm x.dl x.ss := by
  constructor
  · exact rightB_D
  · rintro ⟨k, h⟩
    unfold rX
    rw [Co.chk_right h]
    rfl
def okD (l : List DX) : Bool := decide (l.length ≤ 64) && (risesD l && !(l.any fun x => !rX x))
/-- a saga that may be, its definition found by its name -/
def okS (l : List DX) (nx : Int) (s : Sg) : Bool := match l[(findX l s.dn).toNat]? with
  | some d => decide (0 ≤ findX l s.dn) && (decide (s.id < nx) && Sa.goodB d.nm d.dl d.ss s)
  | none => false
def okG (l : List DX) (nx : Int) (gs : List Sg) : Bool := risesS gs && !(gs.any fun s => !okS l nx s)
def stB (x : SV) : Bool := decide (0 ≤ x.nx) && (okD x.dx && okG x.dx x.nx x.gs)
theorem okS_no {l : List DX} {nx : Int} {s : Sg} (h : findX l s.dn = -1) : okS l nx s = false := by
  unfold okS
  split
  · rw [h]; rfl
  · rfl
theorem okS_yes {l : List DX} {nx : Int} {s : Sg} {i : Nat} {d : DX} (h : findX l s.dn = (i : Int)) (hd : l[i]? = some d) : okS l nx s = (decide (s.id < nx) && Sa.goodB d.nm d.dl d.ss s) := by
  unfold okS
  rw [h, Int.toNat_natCast, hd]
  simp
theorem any_at {α : Type} {p : α → Bool} {l : List α} {i : Nat} {a : α} (h : l[i]? = some a) (hp : p a = true) : l.any p = true := List.any_eq_true.2 ⟨a, List.mem_of_getElem? h, hp⟩
theorem any_not {α : Type} {p : α → Bool} {l : List α} (h : ∀ (j : Nat) (a : α), l[j]? = some a → p a = false) : l.any p = false := by
  rw [List.any_eq_false]
  intro a ha
  obtain ⟨j, hj⟩ := List.mem_iff_getElem?.1 ha
  rw [h j a hj]
  simp
/-- a right state's Bool -/
theorem stB_ok {x : SV} (h : Ok x.st) : stB x = true := by
  have hr : ∀ d ∈ x.dx, rX d = true := fun d hd => rX_iff.2 (h.ds.right d.m (List.mem_map.2 ⟨d, hd, rfl⟩))
  unfold stB okD okG
  rw [decide_eq_true (p := 0 ≤ x.nx) h.nx, decide_eq_true (p := x.dx.length ≤ 64) (by have := h.ds.few; simpa [SV.st] using this)]
  have hrise : risesD x.dx = true := decide_eq_true (by have := h.ds.rise; unfold RiseD SV.st at this; rw [List.pairwise_map] at this; exact this)
  have hrs : risesS x.gs = true := decide_eq_true h.rise
  rw [hrise, hrs, any_not (p := fun x => !rX x) (fun j a ha => by show (!rX a) = false; rw [hr a (List.mem_of_getElem? ha)]; rfl)]
  rw [any_not (p := fun s => !okS x.dx x.nx s) (fun j s hs => ?_)]
  · rfl
  · obtain ⟨i, hi, hd, _, _, hlt, hg⟩ := (h.gs s (List.mem_of_getElem? hs)).at_ h.ds.rise
    have hi' : findX x.dx s.dn = (i : Int) := by rw [← findX_is]; exact hi
    have hd' : (x.dx.map DX.m)[i]? = some (dmOf x.st.ds (findD x.st.ds s.dn)) := hd
    rw [List.getElem?_map] at hd'
    cases hx : x.dx[i]? with
    | none => rw [hx] at hd'; cases hd'
    | some d =>
      rw [hx] at hd'
      injection hd' with hd'
      show (!okS x.dx x.nx s) = false
      rw [okS_yes hi' hx, decide_eq_true (p := s.id < x.nx) hlt]
      rw [← hd'] at hg
      have hg' : GoodS d.nm d.dl d.ss s := hg
      rw [Sa.goodB_yes hg']
      rfl

/-! ### The walks -/
section
variable (dx : List DX) (A : Option Addr) (n c : Nat) (w : World) (hn : n = dx.length) (hb : n ≤ 1000000000) (hE : Els DX.cells 3 w w.heap.size A dx)
include hn hb hE
set_option maxHeartbeats 4000000 in
set_option maxRecDepth 100000 in
theorem risingD_any : Calls Tryz.prog 65 #[.slice A n c, .func (.func 41) #[] #[]] w fun e w' => e = .returned (.bool (risesD dx)) ∧ Below w.heap.size w w' := by
  have eg : ∀ args w, (callFunc 41 args).run Tryz.prog w = .ok (.enter 41 args) w := enters_of Tryz.func41 (by kernel_rfl) rfl
  have HE := Lib.hid hE
  have HL := Lib.hid hn
  clear hE hn
  go_enter Tryz.func65, Tryz.ntmps65
  go_wp2
  go_loopw [5] (fun vi wr => ∃ k : Nat, vi = .int .i64 ((k : Int) + 1) ∧ (k ≤ n) ∧ Below w.heap.size w wr ∧ Hid (∀ (i : Nat) (a b : DX), i < k → dx[i]? = some a → dx[i + 1]? = some b → ltB a.nm b.nm = true)) (fun vi _ => n + 1 - (intOf vi).toNat)
  case atStart => exact ⟨0, rfl, Nat.zero_le _, Below.refl _ _, Lib.hid fun j _ _ hj => absurd hj (by omega)⟩
  case round =>
    obtain ⟨k, rfl, hk, hbw, HN⟩ := hrel
    have HB := Lib.hid hbw
    by_cases hkn : k + 1 < n
    · obtain ⟨x, hx⟩ : ∃ x, dx[k]? = some x := ⟨_, List.getElem?_eq_getElem (by have := HL.out; omega)⟩
      obtain ⟨y, hy⟩ : ∃ y, dx[k + 1]? = some y := ⟨_, List.getElem?_eq_getElem (by have := HL.out; omega)⟩
      obtain ⟨sb, so, rfl, hsb⟩ := HE.out.at_ hx
      have hlt : (k : Int) + 1 < (n : Int) := by omega
      have hE1 := HE.out.below hbw
      have hl : sb < wr.heap.size := by have := hbw.size; omega
      have c0 : ∀ u, Below wr.heap.size wr u → u.cell? ⟨sb, so + k * 3, none⟩ = some (.string x.nm) := fun u H => (H.cell (p := ⟨sb, so + k * 3, none⟩) hl).trans (hE1.get hx 0 rfl)
      have c1 : ∀ u, Below wr.heap.size wr u → u.cell? ⟨sb, so + k * 3 + 1, none⟩ = some (.int .i64 x.dl) := fun u H => (H.cell (p := ⟨sb, so + k * 3 + 1, none⟩) hl).trans (hE1.get hx 1 rfl)
      have c2 : ∀ u, Below wr.heap.size wr u → u.cell? ⟨sb, so + k * 3 + 2, none⟩ = some (.slice x.A x.n x.c) := fun u H => (H.cell (p := ⟨sb, so + k * 3 + 2, none⟩) hl).trans (hE1.get hx 2 rfl)
      have d0 : ∀ u, Below wr.heap.size wr u → u.cell? ⟨sb, so + (k + 1) * 3, none⟩ = some (.string y.nm) := fun u H => (H.cell (p := ⟨sb, so + (k + 1) * 3, none⟩) hl).trans (hE1.get hy 0 rfl)
      have d1 : ∀ u, Below wr.heap.size wr u → u.cell? ⟨sb, so + (k + 1) * 3 + 1, none⟩ = some (.int .i64 y.dl) := fun u H => (H.cell (p := ⟨sb, so + (k + 1) * 3 + 1, none⟩) hl).trans (hE1.get hy 1 rfl)
      have d2 : ∀ u, Below wr.heap.size wr u → u.cell? ⟨sb, so + (k + 1) * 3 + 2, none⟩ = some (.slice y.A y.n y.c) := fun u H => (H.cell (p := ⟨sb, so + (k + 1) * 3 + 2, none⟩) hl).trans (hE1.get hy 2 rfl)
      have HK : Hid (∀ (z : DX) (u : World), Below wr.heap.size wr u → Calls Tryz.prog 41 #[.agg #[.string z.nm, .int .i64 z.dl, .slice z.A z.n z.c]] u fun e w' => e = .returned (.string z.nm) ∧ Below wr.heap.size wr w') :=
        Lib.hid fun z u hu => (keyD_any z u).mono fun e w' ⟨h1, h2⟩ => ⟨h1, hu.trans (h2.below.mono hu.size)⟩
      have hw1 : IntKind.i64.wrap (k : Int) = (k : Int) := by rw [IntKind.wrap_i64]; omega
      have hk1 : k < n := by omega
      have hk2 : (0 : Int) ≤ (k : Int) + 1 := by omega
      have ht1 : ((k : Int) + 1).toNat = k + 1 := by omega
      by_cases he : ltB x.nm y.nm = true
      · have q : Op.bytesLess x.nm.toList y.nm.toList = true := by rw [less_lt]; exact he
        have HNx : Hid (∀ (i : Nat) (a b : DX), i < k + 1 → dx[i]? = some a → dx[i + 1]? = some b → ltB a.nm b.nm = true) := Lib.hid fun j a b hj ha hb => by
          by_cases e : j = k
          · subst e
            rw [hx] at ha; rw [hy] at hb
            injection ha with ha; injection hb with hb
            subst ha hb
            exact he
          · exact HN.out j a b (by omega) ha hb
        clear he hx hy hE1 hbw
        go_wp2
        go_region_held3 (fun u => Below wr.heap.size wr u) (first | exact Below.refl _ _ | exact Below.drew (Below.refl _ _) | assumption)
          ((go_at_call 41; (with_reducible refine (HK.out _ _ ?_).mono ?_); (first | assumption | exact Below.drew (Below.refl _ _)); rintro e u1 ⟨rfl, hu1⟩))
        all_goals
          go_wp2
          go_roundw
          case rel => exact ⟨k + 1, by go_num, by omega, HB.out.trans (Below.mono (by assumption) HB.out.size), HNx⟩
          case measure => simp only [intOf]; omega
      · have he : ltB x.nm y.nm = false := by simpa using he
        have q : Op.bytesLess x.nm.toList y.nm.toList = false := by rw [less_lt]; exact he
        have HF := Lib.hid (risesD_no hx hy he)
        clear he hx hy hE1 hbw
        go_wp2
        go_region_held3 (fun u => Below wr.heap.size wr u) (first | exact Below.refl _ _ | exact Below.drew (Below.refl _ _) | assumption)
          ((go_at_call 41; (with_reducible refine (HK.out _ _ ?_).mono ?_); (first | assumption | exact Below.drew (Below.refl _ _)); rintro e u1 ⟨rfl, hu1⟩))
        all_goals
          go_wp2
          go_ret
          exact ⟨ret_bool HF.out.symm, HB.out.trans (Below.mono (by assumption) HB.out.size)⟩
    · have HF := Lib.hid (risesD_yes fun i a b ha hb' => HN.out i a b (by have := El.at_lt hb'; have := HL.out; omega) ha hb')
      have hge : ¬ ((k : Int) + 1 < (n : Int)) := by omega
      clear hbw
      go_wp2
      go_ret
      exact ⟨ret_bool HF.out.symm, HB.out⟩
end
section
variable (gs : List Sg) (A : Option Addr) (n c : Nat) (w : World) (hn : n = gs.length) (hb : n ≤ 1000000000) (hE : Els sgc 9 w w.heap.size A gs)
include hn hb hE
set_option maxHeartbeats 4000000 in
set_option maxRecDepth 100000 in
theorem risingS_any : Calls Tryz.prog 69 #[.slice A n c, .func (.func 46) #[] #[]] w fun e w' => e = .returned (.bool (risesS gs)) ∧ Below w.heap.size w w' := by
  have eg : ∀ args w, (callFunc 46 args).run Tryz.prog w = .ok (.enter 46 args) w := enters_of Tryz.func46 (by kernel_rfl) rfl
  have HE := Lib.hid hE
  have HL := Lib.hid hn
  clear hE hn
  go_enter Tryz.func69, Tryz.ntmps69
  go_wp2
  go_loopw [5] (fun vi wr => ∃ k : Nat, vi = .int .i64 ((k : Int) + 1) ∧ (k ≤ n) ∧ Below w.heap.size w wr ∧ Hid (∀ (i : Nat) (a b : Sg), i < k → gs[i]? = some a → gs[i + 1]? = some b → a.id < b.id)) (fun vi _ => n + 1 - (intOf vi).toNat)
  case atStart => exact ⟨0, rfl, Nat.zero_le _, Below.refl _ _, Lib.hid fun j _ _ hj => absurd hj (by omega)⟩
  case round =>
    obtain ⟨k, rfl, hk, hbw, HN⟩ := hrel
    have HB := Lib.hid hbw
    by_cases hkn : k + 1 < n
    · obtain ⟨x, hx⟩ : ∃ x, gs[k]? = some x := ⟨_, List.getElem?_eq_getElem (by have := HL.out; omega)⟩
      obtain ⟨y, hy⟩ : ∃ y, gs[k + 1]? = some y := ⟨_, List.getElem?_eq_getElem (by have := HL.out; omega)⟩
      obtain ⟨sb, so, rfl, hsb⟩ := HE.out.at_ hx
      have hlt : (k : Int) + 1 < (n : Int) := by omega
      have hE1 := HE.out.below hbw
      have hl : sb < wr.heap.size := by have := hbw.size; omega
      have c0 : ∀ u, Below wr.heap.size wr u → u.cell? ⟨sb, so + k * 9, none⟩ = some (.int .i64 x.id) := fun u H => (H.cell (p := ⟨sb, so + k * 9, none⟩) hl).trans (hE1.get hx 0 rfl)
      have c1 : ∀ u, Below wr.heap.size wr u → u.cell? ⟨sb, so + k * 9 + 1, none⟩ = some (.string x.dn) := fun u H => (H.cell (p := ⟨sb, so + k * 9 + 1, none⟩) hl).trans (hE1.get hx 1 rfl)
      have c2 : ∀ u, Below wr.heap.size wr u → u.cell? ⟨sb, so + k * 9 + 2, none⟩ = some (.int .i64 x.st) := fun u H => (H.cell (p := ⟨sb, so + k * 9 + 2, none⟩) hl).trans (hE1.get hx 2 rfl)
      have c3 : ∀ u, Below wr.heap.size wr u → u.cell? ⟨sb, so + k * 9 + 3, none⟩ = some (.int .i64 x.ph) := fun u H => (H.cell (p := ⟨sb, so + k * 9 + 3, none⟩) hl).trans (hE1.get hx 3 rfl)
      have c4 : ∀ u, Below wr.heap.size wr u → u.cell? ⟨sb, so + k * 9 + 4, none⟩ = some (.int .i64 x.sp) := fun u H => (H.cell (p := ⟨sb, so + k * 9 + 4, none⟩) hl).trans (hE1.get hx 4 rfl)
      have c5 : ∀ u, Below wr.heap.size wr u → u.cell? ⟨sb, so + k * 9 + 5, none⟩ = some (.int .i64 x.tr) := fun u H => (H.cell (p := ⟨sb, so + k * 9 + 5, none⟩) hl).trans (hE1.get hx 5 rfl)
      have c6 : ∀ u, Below wr.heap.size wr u → u.cell? ⟨sb, so + k * 9 + 6, none⟩ = some (.bool x.out) := fun u H => (H.cell (p := ⟨sb, so + k * 9 + 6, none⟩) hl).trans (hE1.get hx 6 rfl)
      have c7 : ∀ u, Below wr.heap.size wr u → u.cell? ⟨sb, so + k * 9 + 7, none⟩ = some (.int .i64 x.at_) := fun u H => (H.cell (p := ⟨sb, so + k * 9 + 7, none⟩) hl).trans (hE1.get hx 7 rfl)
      have c8 : ∀ u, Below wr.heap.size wr u → u.cell? ⟨sb, so + k * 9 + 8, none⟩ = some (.int .i64 x.sk) := fun u H => (H.cell (p := ⟨sb, so + k * 9 + 8, none⟩) hl).trans (hE1.get hx 8 rfl)
      have d0 : ∀ u, Below wr.heap.size wr u → u.cell? ⟨sb, so + (k + 1) * 9, none⟩ = some (.int .i64 y.id) := fun u H => (H.cell (p := ⟨sb, so + (k + 1) * 9, none⟩) hl).trans (hE1.get hy 0 rfl)
      have d1 : ∀ u, Below wr.heap.size wr u → u.cell? ⟨sb, so + (k + 1) * 9 + 1, none⟩ = some (.string y.dn) := fun u H => (H.cell (p := ⟨sb, so + (k + 1) * 9 + 1, none⟩) hl).trans (hE1.get hy 1 rfl)
      have d2 : ∀ u, Below wr.heap.size wr u → u.cell? ⟨sb, so + (k + 1) * 9 + 2, none⟩ = some (.int .i64 y.st) := fun u H => (H.cell (p := ⟨sb, so + (k + 1) * 9 + 2, none⟩) hl).trans (hE1.get hy 2 rfl)
      have d3 : ∀ u, Below wr.heap.size wr u → u.cell? ⟨sb, so + (k + 1) * 9 + 3, none⟩ = some (.int .i64 y.ph) := fun u H => (H.cell (p := ⟨sb, so + (k + 1) * 9 + 3, none⟩) hl).trans (hE1.get hy 3 rfl)
      have d4 : ∀ u, Below wr.heap.size wr u → u.cell? ⟨sb, so + (k + 1) * 9 + 4, none⟩ = some (.int .i64 y.sp) := fun u H => (H.cell (p := ⟨sb, so + (k + 1) * 9 + 4, none⟩) hl).trans (hE1.get hy 4 rfl)
      have d5 : ∀ u, Below wr.heap.size wr u → u.cell? ⟨sb, so + (k + 1) * 9 + 5, none⟩ = some (.int .i64 y.tr) := fun u H => (H.cell (p := ⟨sb, so + (k + 1) * 9 + 5, none⟩) hl).trans (hE1.get hy 5 rfl)
      have d6 : ∀ u, Below wr.heap.size wr u → u.cell? ⟨sb, so + (k + 1) * 9 + 6, none⟩ = some (.bool y.out) := fun u H => (H.cell (p := ⟨sb, so + (k + 1) * 9 + 6, none⟩) hl).trans (hE1.get hy 6 rfl)
      have d7 : ∀ u, Below wr.heap.size wr u → u.cell? ⟨sb, so + (k + 1) * 9 + 7, none⟩ = some (.int .i64 y.at_) := fun u H => (H.cell (p := ⟨sb, so + (k + 1) * 9 + 7, none⟩) hl).trans (hE1.get hy 7 rfl)
      have d8 : ∀ u, Below wr.heap.size wr u → u.cell? ⟨sb, so + (k + 1) * 9 + 8, none⟩ = some (.int .i64 y.sk) := fun u H => (H.cell (p := ⟨sb, so + (k + 1) * 9 + 8, none⟩) hl).trans (hE1.get hy 8 rfl)
      have HK : Hid (∀ (z : Sg) (u : World), Below wr.heap.size wr u → Calls Tryz.prog 46 #[.agg #[.int .i64 z.id, .string z.dn, .int .i64 z.st, .int .i64 z.ph, .int .i64 z.sp, .int .i64 z.tr, .bool z.out, .int .i64 z.at_, .int .i64 z.sk]] u fun e w' => e = .returned (.int .i64 z.id) ∧ Below wr.heap.size wr w') :=
        Lib.hid fun z u hu => (keyS_any z u).mono fun e w' ⟨h1, h2⟩ => ⟨h1, hu.trans (h2.below.mono hu.size)⟩
      have hw1 : IntKind.i64.wrap (k : Int) = (k : Int) := by rw [IntKind.wrap_i64]; omega
      have hk1 : k < n := by omega
      have hk2 : (0 : Int) ≤ (k : Int) + 1 := by omega
      have ht1 : ((k : Int) + 1).toNat = k + 1 := by omega
      by_cases he : x.id < y.id
      · have q : decide (y.id ≤ x.id) = false := decide_eq_false (by omega)
        have q2 : ¬ y.id ≤ x.id := by omega
        have HNx : Hid (∀ (i : Nat) (a b : Sg), i < k + 1 → gs[i]? = some a → gs[i + 1]? = some b → a.id < b.id) := Lib.hid fun j a b hj ha hb => by
          by_cases e : j = k
          · subst e
            rw [hx] at ha; rw [hy] at hb
            injection ha with ha; injection hb with hb
            subst ha hb
            exact he
          · exact HN.out j a b (by omega) ha hb
        clear he hx hy hE1 hbw
        go_wp2
        go_region_held3 (fun u => Below wr.heap.size wr u) (first | exact Below.refl _ _ | exact Below.drew (Below.refl _ _) | assumption)
          ((go_at_call 46; (with_reducible refine (HK.out _ _ ?_).mono ?_); (first | assumption | exact Below.drew (Below.refl _ _)); rintro e u1 ⟨rfl, hu1⟩))
        all_goals
          go_wp2
          go_roundw
          case rel => exact ⟨k + 1, by go_num, by omega, HB.out.trans (Below.mono (by assumption) HB.out.size), HNx⟩
          case measure => simp only [intOf]; omega
      · have q : decide (y.id ≤ x.id) = true := decide_eq_true (by omega)
        have q2 : y.id ≤ x.id := by omega
        have HF := Lib.hid (risesS_no hx hy he)
        clear he hx hy hE1 hbw
        go_wp2
        go_region_held3 (fun u => Below wr.heap.size wr u) (first | exact Below.refl _ _ | exact Below.drew (Below.refl _ _) | assumption)
          ((go_at_call 46; (with_reducible refine (HK.out _ _ ?_).mono ?_); (first | assumption | exact Below.drew (Below.refl _ _)); rintro e u1 ⟨rfl, hu1⟩))
        all_goals
          go_wp2
          go_ret
          exact ⟨ret_bool HF.out.symm, HB.out.trans (Below.mono (by assumption) HB.out.size)⟩
    · have HF := Lib.hid (risesS_yes fun i a b ha hb' => HN.out i a b (by have := El.at_lt hb'; have := HL.out; omega) ha hb')
      have hge : ¬ ((k : Int) + 1 < (n : Int)) := by omega
      clear hbw
      go_wp2
      go_ret
      exact ⟨ret_bool HF.out.symm, HB.out⟩
end
end Go.Proofs.YteejocnogpaifaaGreatDoor.Tt
